"""[14]: whether any value is of a kind."""

import unittest

from starshelves.kinds import is_book, is_digit, is_integer, is_lot, is_number, is_prime, is_word
from tests.helper import DEEP, KEEP, ODD, PRIMES, all_books, chance_of, some_book

LONG = 10 ** 60 - 1
SHORT = [None, True, False, "", "0", "11", "a" * 4000, (), [], (1,), [1], DEEP, [None] * 5000]


class Numbers(unittest.TestCase):
    def test_integers(self):
        for thing in (0, 1, -1, 7, LONG, -LONG):
            self.assertIs(is_integer(thing), True)
        for thing in SHORT:
            self.assertIs(is_integer(thing), False)

    def test_numbers_are_at_least_0(self):
        for thing in (0, 1, LONG):
            self.assertIs(is_number(thing), True)
        for thing in (-1, -LONG, *SHORT):
            self.assertIs(is_number(thing), False)

    def test_primes_are_just_six(self):
        self.assertEqual([thing for thing in range(-20, 200) if is_prime(thing)], list(PRIMES))
        for thing in (LONG, 17, 19, -2, *SHORT):
            self.assertIs(is_prime(thing), False)
        self.assertIs(is_prime(13), True)

    def test_digits_are_the_numbers_below_the_prime(self):
        for prime in PRIMES:
            self.assertEqual([thing for thing in range(-3, 20) if is_digit(prime, thing)], list(range(prime)))
            for thing in (LONG, -LONG, *SHORT):
                self.assertIs(is_digit(prime, thing), False)
        self.assertIs(is_digit(5, 4), True)


class WordsAndLots(unittest.TestCase):
    def test_words_have_the_size_and_digits_of_the_prime(self):
        for prime in PRIMES:
            for size in (1, 2, 8, 40):
                word = (prime - 1,) * size
                self.assertIs(is_word(prime, size, word), True)
                for wrong in (word + (0,), word[1:], list(word), (prime,) * size, (-1,) + word[1:], word[1:] + (True,)):
                    self.assertIs(is_word(prime, size, wrong), False)
        for thing in (*ODD, *SHORT, LONG):
            self.assertIs(is_word(7, 3, thing), False)

    def test_the_place_of_the_wrong_digit_does_not_matter(self):
        for place in range(6):
            for wrong in (False, True, 3, -1, "1", (1,), None, LONG):
                word = [1] * 6
                word[place] = wrong
                self.assertIs(is_word(3, 6, tuple(word)), False)

    def test_lots_are_ascending_places_below_the_size(self):
        for thing in ((), (0,), (2,), (0, 2), (0, 1, 2)):
            self.assertIs(is_lot(3, thing), True)
        for thing in ((3,), (0, 3), (-1, 0), (1, 0), (1, 1), (False,), (0, True), ("0",), ((0,),), [0], [], (None,)):
            self.assertIs(is_lot(3, thing), False)
        for thing in ODD:
            self.assertIs(is_lot(2, thing), False)

    def test_lots_of_many_places_and_of_great_ones(self):
        self.assertIs(is_lot(40, tuple(range(40))), True)
        self.assertIs(is_lot(40, tuple(range(41))), False)
        self.assertIs(is_lot(LONG + 1, (0, LONG)), True)
        self.assertIs(is_lot(LONG, (0, LONG)), False)


class Books(unittest.TestCase):
    def test_all_small_books(self):
        for prime, size in ((2, 1), (2, 3), (3, 2), (5, 2), (13, 1)):
            for book in all_books(prime, size):
                self.assertIs(is_book(book), True)

    def test_any_rows_of_a_size_are_settled_or_not(self):
        words = [(left, right) for left in range(3) for right in range(3)]
        rows = [()] + [(one,) for one in words] + [(one, other) for one in words for other in words]
        books = [book[2] for book in all_books(3, 2)]
        self.assertEqual(sorted(row for row in rows if is_book((3, 2, row))), sorted(books))

    def test_great_books(self):
        chance = chance_of(1)
        for prime in PRIMES:
            self.assertIs(is_book(some_book(chance, prime, 40)), True)
        self.assertIs(is_book((2, LONG, ())), True)
        self.assertIs(is_book((2, LONG, ((1,),))), False)

    def test_wrong_books(self):
        wrong = [
            list(KEEP), KEEP[:2], KEEP + ((),), (4, 1, ()), (True, 1, ()), (5, 0, ()), (5, -1, ()), (5, True, ()),
            (5, "1", ()), (5, 1, []), (5, 1, None), (5, 2, ([1, 0],)), (5, 2, ((1, True),)), (5, 2, ((1, 5),)),
            (5, 2, ((1,),)), (5, 2, ((0, 0),)), (5, 2, ((2, 0),)), (5, 2, ((0, 1), (1, 0))), (5, 2, ((1, 1), (0, 1))),
            (5, 2, ((1, 0), (1, 0))), (5, 2, ((1, 0), (1, 1))), (5, 2, ((1, 0), (0, 1), (0, 0))), (5, 2, ((True, 0),)),
            (5, 2, ((0, 1), (0, 0))), (3, 3, ((1, 0, 1), (0, 0, 1))), (None, None, None),
        ]
        for thing in (*wrong, *ODD, *SHORT, LONG):
            self.assertIs(is_book(thing), False, thing)


if __name__ == "__main__":
    unittest.main()
