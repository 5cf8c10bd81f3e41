"""[24]: books as objects, and books of the values of polynomials."""

import unittest

from starshelves.bookclasses import Book, Points
from starshelves.books import checks_of, cut_of, is_part, meet_of, span_of, star_of, sum_of
from starshelves.booktexts import book_text
from tests.helper import (
    HIDE, KEEP, ODD, PRIMES, all_books, all_words, chance_of, invalid, lots_below, not_usable, raised, shown, some_book,
    words_by_hand,
)

LONG = 10 ** 60 - 1
STRANGE = (None, True, 1, "book 5 4", KEEP, [KEEP], HIDE[2], (1, 1, 1, 1), ())


def some_pairs(seed):
    """Pairs of books of one prime and size, over all six primes, with their objects."""
    chance = chance_of(seed)
    for prime in PRIMES:
        for size in (1, 2, 4, 8, 40):
            one, other = some_book(chance, prime, size), some_book(chance, prime, size)
            yield one, other, Book(one[0], one[1], *one[2]), Book(other[0], other[1], *other[2])


class Objects(unittest.TestCase):
    def test_properties(self):
        for book, _, one, _ in some_pairs(13):
            self.assertEqual(shown(one.form_now), shown(book))
            self.assertEqual(shown([one.prime_now, one.size_now, one.rows_now]), shown(list(book)))

    def test_properties_are_not_assigned(self):
        one = Book(*KEEP[:2], *KEEP[2])
        for name in ("form_now", "prime_now", "size_now", "rows_now"):
            with self.assertRaises(AttributeError):
                setattr(one, name, 1)
        self.assertEqual(one.form_now, KEEP)

    def test_rows_by_index_length_and_iteration(self):
        for book, _, one, _ in some_pairs(14):
            self.assertEqual(len(one), len(book[2]))
            self.assertEqual(list(one), list(book[2]))
            self.assertEqual([one[k] for k in range(len(one))], list(book[2]))
            for k in (len(one), -1, None, True, False, "0", (0,), [0], LONG, -LONG):
                self.assertEqual(raised(one.__getitem__, k), not_usable("k"))

    def test_empty_books(self):
        one = Book(7, 3)
        self.assertEqual([len(one), list(one), str(one), one.rows_now], [0, [], "book 7 3", ()])
        self.assertEqual(raised(one.__getitem__, 0), not_usable("k"))
        self.assertEqual(Book(2, LONG).form_now, (2, LONG, ()))

    def test_membership(self):
        for prime, size in ((2, 3), (3, 2), (5, 1)):
            for book in all_books(prime, size):
                one, words = Book(prime, size, *book[2]), words_by_hand(book)
                for word in all_words(prime, size):
                    self.assertIs(word in one, word in words)
        one = Book(5, 2, (1, 0), (0, 1))
        for thing in (None, 1, "1 1", [1, 1], (1,), (1, 1, 1), (1, 5), (1, True), (True, False), (1, -1), ((1,), 1), one):
            self.assertIs(thing in one, False)

    def test_cut(self):
        for book, _, one, _ in some_pairs(15):
            for lot in ((0,), tuple(range(book[1])), tuple(range(0, book[1], 2))):
                self.assertEqual(one(lot).form_now, cut_of(book, lot))
                self.assertEqual(one(lot=lot).form_now, cut_of(book, lot))
            for lot in ((), None, 0, "0", [0], (book[1],), (0, 0), (-1,), (True,), (False,)):
                self.assertEqual(raised(one, lot), not_usable("lot"))
            self.assertEqual(one.form_now, book)

    def test_text(self):
        for book, _, one, _ in some_pairs(16):
            self.assertEqual(shown(str(one)), shown(book_text(book)))

    def test_equality(self):
        for book, other, one, two in some_pairs(17):
            self.assertIs(one == two, book == other)
            self.assertIs(one != two, book != other)
            self.assertIs(one == Book(book[0], book[1], *book[2]), True)
            for thing in (*STRANGE, book, str(one)):
                self.assertIs(one == thing, False)
                self.assertIs(thing == one, False)
        self.assertIs(Book(5, 2) == Book(5, 3), False)
        self.assertIs(Book(5, 2) == Book(7, 2), False)


class Signs(unittest.TestCase):
    def same(self, made, book):
        self.assertIs(made.__class__, Book)
        self.assertEqual(shown(made.form_now), shown(book))

    def test_checks_sums_meets_stars_and_parts(self):
        for book, other, one, two in some_pairs(18):
            self.same(~one, checks_of(book))
            self.same(one + two, sum_of(book, other))
            self.same(one & two, meet_of(book, other))
            self.same(one * two, star_of(book, other))
            self.assertIs(one.lies_in(two), is_part(book, other))
            self.assertIs(one.lies_in(other=one + two), True)
            self.assertEqual([one.form_now, two.form_now], [book, other])

    def test_small_books_in_all_pairs(self):
        books = all_books(2, 3)
        for book in books:
            for other in books:
                one, two = Book(*book[:2], *book[2]), Book(*other[:2], *other[2])
                self.same(one & two, meet_of(book, other))
                self.assertIs(one.lies_in(two), words_by_hand(book) <= words_by_hand(other))

    def test_others_that_are_no_like_book(self):
        one = Book(5, 4, *KEEP[2])
        for other in (*STRANGE, Book(5, 3), Book(7, 4), Book(2, 1)):
            for call in (one.__add__, one.__and__, one.__mul__, one.lies_in):
                self.assertEqual(raised(call, other), not_usable("other"))
        self.assertEqual(one.form_now, KEEP)


class ClassMethods(unittest.TestCase):
    def test_they_are_class_methods_of_book(self):
        for name in ("of", "span", "read"):
            self.assertIsInstance(vars(Book)[name], classmethod)

    def test_of(self):
        for book, _, one, _ in some_pairs(19):
            self.assertEqual(Book.of(book), one)
            self.assertEqual(Book.of(book=book), one)
        for thing in (*[thing for thing in ODD if not (isinstance(thing, tuple) and len(thing) == 3)], Book(5, 2)):
            self.assertEqual(raised(Book.of, thing), invalid("shape"))
        self.assertEqual(raised(Book.of, (4, 0, None)), invalid("prime"))
        self.assertEqual(raised(Book.of, (5, 2, ((1, 1), (0, 1)))), invalid("settled", (1, 0)))

    def test_span(self):
        one = Book.span(5, 2, (0, 2), (3, 1), (3, 0))
        self.assertEqual(one.form_now, span_of(5, 2, ((0, 2), (3, 1), (3, 0))))
        self.assertEqual(Book.span(5, 2).form_now, (5, 2, ()))
        self.assertEqual(Book.span(prime=5, size=2).form_now, (5, 2, ()))
        self.assertEqual(raised(Book.span, 4, 0, None), not_usable("prime"))
        self.assertEqual(raised(Book.span, 5, 0, None), not_usable("size"))
        for word in (None, (1,), [1, 1], (1, True), (1, 5), ((1, 1),)):
            self.assertEqual(raised(Book.span, 5, 2, (1, 0), word), not_usable("words"))

    def test_read(self):
        for book, _, one, _ in some_pairs(20):
            self.assertEqual(Book.read(str(one)), one)
            self.assertEqual(Book.read(text=str(one)).form_now, book)
        self.assertEqual(raised(Book.read, 5), not_usable("text"))
        self.assertEqual(raised(Book.read, "book 5"), ("InvalidText", {"line": 0, "field": 2}))


class Made(unittest.TestCase):
    def test_errors_of_the_judge_of_books_for_the_triple(self):
        cases = [
            ((4, 0, None), invalid("prime")), ((None, None), invalid("prime")), ((5, 0, None), invalid("size")),
            ((5, True), invalid("size")), ((5, 2, None), invalid("row", 0)), ((5, 2, [1, 0]), invalid("row", 0)),
            ((5, 2, (1, 0), (1, True)), invalid("row", 1)), ((5, 2, ((1, 0),)), invalid("row", 0)),
            ((5, 2, (0, 0)), invalid("nought", 0)), ((5, 2, (0, 1), (1, 0)), invalid("first", 1)),
            ((5, 2, (1, 1), (0, 1)), invalid("settled", (1, 0))),
        ]
        for given, told in cases:
            self.assertEqual(raised(Book, *given), told)

    def test_by_name(self):
        self.assertEqual(Book(prime=5, size=2).form_now, (5, 2, ()))
        self.assertEqual(Points(prime=5, points=(1, 2), rank=1).form_now, (5, 2, ((1, 1),)))
        self.assertEqual(Points(rank=1, points=(1, 2), prime=5).values_of(numbers=(3,)), (3, 3))


class OfPoints(unittest.TestCase):
    def test_words_are_the_values_of_all_polynomials(self):
        for prime, points in ((2, (0,)), (2, (1, 0)), (3, (2, 0, 1)), (5, (4, 1)), (5, (3, 0, 1)), (13, (7,))):
            for rank in range(1, len(points) + 1):
                one, words = Points(prime, points, rank), set()
                for numbers in all_words(prime, rank):
                    values = tuple(sum(n * x ** k for k, n in enumerate(numbers)) % prime for x in points)
                    self.assertEqual(shown(one.values_of(numbers)), shown(values))
                    words.add(values)
                self.assertEqual(words_by_hand(one.form_now), words)
                self.assertEqual(len(one), rank)
                self.assertEqual(shown(one.points_now), shown(points))

    def test_any_so_many_places_are_free(self):
        for prime in PRIMES:
            points = tuple(range(prime))[:8]
            for rank in (1, (len(points) + 1) // 2, len(points)):
                one = Points(prime, points, rank)
                for lot in lots_below(len(points)):
                    if lot:
                        self.assertEqual(len(one(lot)), min(rank, len(lot)))

    def test_a_points_is_a_book(self):
        line, one = Points(5, (1, 2, 3, 4), 2), Book(5, 4, *HIDE[2])
        self.assertEqual(line.form_now, KEEP)
        self.assertIs(line == Book(*KEEP[:2], *KEEP[2]), True)
        self.assertIs(Book(*KEEP[:2], *KEEP[2]) == line, True)
        self.assertIs(line == Points(5, (1, 2, 3, 4), 2), True)
        self.assertIs(line == Points(5, (2, 1, 3, 4), 2), False)
        for made in (~line, line + one, one + line, line & one, line * one, one * line, line((0, 1))):
            self.assertIs(made.__class__, Book)
        self.assertEqual([one.lies_in(line), line.lies_in(one), str(line)], [True, False, book_text(KEEP)])
        self.assertIn((0, 1, 2, 3), line)
        self.assertEqual([line.prime_now, line.size_now, line.rows_now, line[0]], [5, 4, KEEP[2], KEEP[2][0]])

    def test_wrong_values_in_their_order(self):
        for prime in (None, True, 4, "5", 1):
            self.assertEqual(raised(Points, prime, (1, 2), 1), not_usable("prime"))
            self.assertEqual(raised(Points, prime, None, 0), not_usable("prime"))
        for points in (None, 1, (), [1, 2], (1, 1), (1, 5), (1, -1), (0, True), (1, "2"), ((1,), 2), (1, 2, 3, 4, 0, 1)):
            self.assertEqual(raised(Points, 5, points, 1), not_usable("points"))
            self.assertEqual(raised(Points, 5, points, None), not_usable("points"))
        for rank in (None, True, 0, -1, 3, "1", (1,), LONG):
            self.assertEqual(raised(Points, 5, (1, 2), rank), not_usable("rank"))

    def test_numbers_are_so_many_digits(self):
        line = Points(5, (1, 2, 3, 4), 2)
        for numbers in (None, 1, (), (1,), (1, 2, 3), [1, 2], (1, 5), (1, True), (1, -1), "12"):
            self.assertEqual(raised(line.values_of, numbers), not_usable("numbers"))


if __name__ == "__main__":
    unittest.main()
