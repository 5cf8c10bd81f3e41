"""[22], [23]: books, words and lots written and read."""

import unittest

from starshelves.bookreadings import book_read, lot_read, word_read
from starshelves.booktexts import book_text, lot_text, word_text
from tests.helper import (
    HIDE, PRIMES, all_books, all_words, chance_of, lots_below, not_usable, raised, shown, some_book, some_lot, some_word,
)

LONG = 10 ** 60 - 1
NOT_NUMBERS = ("", "-1", "+1", "01", "00", "1.0", "one", "0x1", "1_0", "-", "1,", "1a", "9" * 61, "0" * 60)


def not_text(line, field):
    """What raised gives for a line that is not possible."""
    return "InvalidText", {"line": line, "field": field}


class Written(unittest.TestCase):
    def test_books(self):
        self.assertEqual(book_text(HIDE), "book 5 4\nrow 1 1 1 1")
        self.assertEqual(book_text((13, 1, ())), "book 13 1")
        self.assertEqual(book_text((13, 2, ((1, 0), (0, 1)))), "book 13 2\nrow 1 0\nrow 0 1")
        self.assertEqual(book_text((11, 2, ((1, 10),))), "book 11 2\nrow 1 10")
        self.assertEqual(book_text((2, LONG, ())), "book 2 " + "9" * 60)

    def test_words(self):
        self.assertEqual(shown(word_text((0,))), "'0'")
        self.assertEqual(word_text((12, 0, 10)), "12 0 10")
        for one in (None, 1, "1 2", (), [1], (13,), (-1,), (True,), (1, None), ((1,),), (LONG,)):
            self.assertEqual(raised(word_text, one), not_usable("one"))

    def test_lots_of_whatever_size(self):
        self.assertEqual(shown(lot_text(())), "'-'")
        self.assertEqual(lot_text((0,)), "0")
        self.assertEqual(lot_text((0, 3, 10, LONG)), "0 3 10 " + "9" * 60)
        for lot in (None, 0, "-", [0], (1, 0), (1, 1), (-1,), (False,), (0, True), (None,), ((0,),)):
            self.assertEqual(raised(lot_text, lot), not_usable("lot"))

    def test_what_is_written_is_read(self):
        chance = chance_of(12)
        for prime in PRIMES:
            for size in (1, 2, 8, 40):
                book, one, lot = some_book(chance, prime, size), some_word(chance, prime, size), some_lot(chance, size)
                self.assertEqual(shown(book_read(book_text(book))), shown(book))
                self.assertEqual(shown(word_read(prime, size, word_text(one))), shown(one))
                self.assertEqual(shown(lot_read(size, lot_text(lot))), shown(lot))
        for prime, size in ((2, 3), (3, 2), (13, 1)):
            for book in all_books(prime, size):
                self.assertEqual(book_read(book_text(book)), book)
            for one in all_words(prime, size):
                self.assertEqual(word_read(prime, size, word_text(one)), one)
        for lot in lots_below(5):
            self.assertEqual(lot_read(5, lot_text(lot)), lot)

    def test_numbers_of_sixty_digits(self):
        self.assertEqual(book_read("book 2 " + "9" * 60), (2, LONG, ()))
        self.assertEqual(lot_read(LONG, "0 " + "9" * 59 + "8"), (0, LONG - 1))
        self.assertEqual(raised(lot_read, LONG, "0 " + "9" * 60), not_text(0, 1))
        self.assertEqual(raised(lot_read, 10 ** 70, "0 1" + "0" * 60), not_text(0, 1))
        self.assertEqual(raised(book_read, "book 2 1" + "0" * 60), not_text(0, 2))


class BooksRead(unittest.TestCase):
    def refused(self, text, line, field):
        self.assertEqual(raised(book_read, text), not_text(line, field), text)

    def test_texts_are_strings(self):
        for text in (None, True, 5, ["book 5 2"], ("book 5 2",), (5, 2, ()), [], ()):
            self.assertEqual(raised(book_read, text), not_usable("text"))

    def test_the_first_word_is_book(self):
        for word in ("", "Book", "row", "books", "boo", "5", "book\t"):
            self.refused(f"{word} 5 2", 0, 0)
            self.refused(f"{word} 4 0 1\nrow", 0, 0)
        self.refused("", 0, 0)
        self.refused("\nbook 5 2", 0, 0)
        self.refused(" book 5 2", 0, 0)

    def test_the_prime(self):
        for word in (*NOT_NUMBERS, "0", "1", "4", "6", "9", "15", "17", "05", "5\t"):
            self.refused(f"book {word} 2", 0, 1)
            self.refused(f"book {word} x y", 0, 1)
        for prime in PRIMES:
            self.assertEqual(book_read(f"book {prime} 1"), (prime, 1, ()))

    def test_the_size(self):
        for word in (*NOT_NUMBERS, "0"):
            self.refused(f"book 5 {word}", 0, 2)
            self.refused(f"book 5 {word} 9\nrow", 0, 2)
        self.assertEqual(book_read("book 5 1"), (5, 1, ()))

    def test_a_word_too_many_and_one_missing_in_the_first_line(self):
        for more in ("", "1", "row", " ", "  "):
            self.refused(f"book 5 2 {more}", 0, 3)
        self.refused("book", 0, 1)
        self.refused("book 5", 0, 2)
        self.refused("book 5\nrow 1 1", 0, 2)
        self.refused("book  5 2", 0, 1)

    def test_the_first_word_of_a_row(self):
        for word in ("", "Row", "book", "rows", "1", "-"):
            self.refused(f"book 5 2\n{word} 1 0", 1, 0)
            self.refused(f"book 5 2\nrow 1 0\n{word} 9 9 9", 2, 0)

    def test_digits(self):
        for word in (*NOT_NUMBERS, "5", "10", "9" * 60):
            self.refused(f"book 5 2\nrow {word} 1", 1, 1)
            self.refused(f"book 5 2\nrow 1 {word}", 1, 2)
            self.refused(f"book 5 3\nrow 1 0 0\nrow 0 {word} 1 1", 2, 2)
        self.assertEqual(book_read("book 13 2\nrow 1 12"), (13, 2, ((1, 12),)))

    def test_a_word_too_many_and_one_missing_in_a_row(self):
        for more in ("", "1", "x"):
            self.refused(f"book 5 2\nrow 1 0 {more}", 1, 3)
        self.refused("book 5 2\nrow", 1, 1)
        self.refused("book 5 2\nrow 1", 1, 2)
        self.refused("book 5 2\nrow 1 0\nrow 0", 2, 2)
        self.refused("book 5 2\nrow ", 1, 1)
        self.refused("book 5 2\nrow 0", 1, 2)

    def test_empty_lines(self):
        self.refused("book 5 2\n", 1, 0)
        self.refused("book 5 2\n\nrow 1 0", 1, 0)
        self.refused("book 5 2\nrow 1 0\n", 2, 0)
        self.refused("\n", 0, 0)

    def test_rows_that_are_not_settled_with_those_ahead(self):
        self.refused("book 5 2\nrow 0 0", 1, 0)
        self.refused("book 5 2\nrow 2 0", 1, 0)
        self.refused("book 5 2\nrow 1 1\nrow 0 1", 2, 0)
        self.refused("book 5 2\nrow 0 1\nrow 1 0", 2, 0)
        self.refused("book 5 2\nrow 1 0\nrow 1 0", 2, 0)
        self.refused("book 5 2\nrow 1 0\nrow 0 1\nrow 0 1", 3, 0)
        self.refused("book 5 3\nrow 1 0 2\nrow 0 1 3\nrow 0 0 1\nrow x", 3, 0)
        self.refused("book 5 2\nrow 1 1\nrow 0 1 1", 2, 3)
        self.refused("book 5 2\nrow 0 0\nrow 1", 1, 0)

    def test_all_two_rows_of_a_size(self):
        books = {book_text(book) for book in all_books(3, 2)}
        words = all_words(3, 2)
        for one in words:
            for other in words:
                text = f"book 3 2\nrow {one[0]} {one[1]}\nrow {other[0]} {other[1]}"
                if text in books:
                    self.assertEqual(book_text(book_read(text)), text)
                else:
                    first = "book 3 2\nrow {} {}".format(*one)
                    self.refused(text, 2 if first in books else 1, 0)


class WordsRead(unittest.TestCase):
    def test_prime_size_text_in_this_order(self):
        for prime in (None, True, 1, 4, "5", 17):
            self.assertEqual(raised(word_read, prime, 2, "1 1"), not_usable("prime"))
            self.assertEqual(raised(word_read, prime, 0, None), not_usable("prime"))
        for size in (None, True, 0, -1, "2", (2,)):
            self.assertEqual(raised(word_read, 5, size, "1 1"), not_usable("size"))
            self.assertEqual(raised(word_read, 5, size, None), not_usable("size"))
        for text in (None, True, 5, ["1 1"], (1, 1), ()):
            self.assertEqual(raised(word_read, 5, 2, text), not_usable("text"))

    def test_words_that_cannot_stand(self):
        for word in (*NOT_NUMBERS, "5", "12", "1\n", "\n1", "1\n1", "\n"):
            self.assertEqual(raised(word_read, 5, 2, f"{word} 1"), not_text(0, 0))
            self.assertEqual(raised(word_read, 5, 2, f"{word}"), not_text(0, 0))
            self.assertEqual(raised(word_read, 5, 2, f"4 {word}"), not_text(0, 1))
            self.assertEqual(raised(word_read, 5, 2, f"4 {word} 0 0"), not_text(0, 1))

    def test_a_word_too_many_and_one_missing(self):
        for more in ("", "1", "x", "\n"):
            self.assertEqual(raised(word_read, 5, 2, f"1 1 {more}"), not_text(0, 2))
        self.assertEqual(raised(word_read, 5, 2, "1"), not_text(0, 1))
        self.assertEqual(raised(word_read, 5, 4, "1 0 0"), not_text(0, 3))
        self.assertEqual(raised(word_read, 5, 1, ""), not_text(0, 0))
        self.assertEqual(raised(word_read, 5, 1, " "), not_text(0, 0))
        self.assertEqual(raised(word_read, 5, LONG, "1 0 0"), not_text(0, 3))

    def test_one_digit(self):
        for prime in PRIMES:
            self.assertEqual(word_read(prime, 1, str(prime - 1)), (prime - 1,))
            self.assertEqual(raised(word_read, prime, 1, str(prime)), not_text(0, 0))


class LotsRead(unittest.TestCase):
    def test_size_ahead_of_text(self):
        for size in (None, True, 0, -1, "2", (2,)):
            self.assertEqual(raised(lot_read, size, "0"), not_usable("size"))
            self.assertEqual(raised(lot_read, size, None), not_usable("size"))
        for text in (None, True, 0, ["0"], (0,), ()):
            self.assertEqual(raised(lot_read, 4, text), not_usable("text"))

    def test_no_places(self):
        self.assertEqual(shown(lot_read(1, "-")), "()")
        for more in ("", "0", "-", "x", "\n"):
            self.assertEqual(raised(lot_read, 4, f"- {more}"), not_text(0, 1))
        self.assertEqual(raised(lot_read, 4, "- 0 1"), not_text(0, 1))
        self.assertEqual(raised(lot_read, 4, "-\n"), not_text(0, 0))
        self.assertEqual(raised(lot_read, 4, "--"), not_text(0, 0))

    def test_words_that_cannot_stand(self):
        for word in (*[word for word in NOT_NUMBERS if word != "-"], "4", "10", "0\n", "\n"):
            self.assertEqual(raised(lot_read, 4, word), not_text(0, 0))
            self.assertEqual(raised(lot_read, 4, f"{word} 1"), not_text(0, 0))
        for word in (*NOT_NUMBERS, "4", "0", "1", "2\n"):
            self.assertEqual(raised(lot_read, 4, f"1 {word}"), not_text(0, 1))
            self.assertEqual(raised(lot_read, 4, f"0 1 {word} x"), not_text(0, 2))

    def test_one_place(self):
        self.assertEqual(shown(lot_read(1, "0")), "(0,)")
        self.assertEqual(raised(lot_read, 1, "1"), not_text(0, 0))
        self.assertEqual(raised(lot_read, 1, "0 0"), not_text(0, 1))
        self.assertEqual(raised(lot_read, 1, "0 1"), not_text(0, 1))
        self.assertEqual(raised(lot_read, 1, ""), not_text(0, 0))


if __name__ == "__main__":
    unittest.main()
