"""[17]: the judge of books, each word of its list and their order."""

import itertools
import unittest

from starshelves.bookchecker import lets_book
from tests.helper import DEEP, KEEP, ODD, PRIMES, all_books, chance_of, invalid, raised, shown, some_book


def judged_by_hand(thing):
    """What the document's list says of a triple of prime, size and a tuple of words: the first entry."""
    prime, size, rows = thing
    lead = -1
    for k, row in enumerate(rows):
        firsts = [place for place in range(size) if row[place] != 0]
        if not firsts:
            return invalid("nought", k)
        if row[firsts[0]] != 1 or firsts[0] <= lead:
            return invalid("first", k)
        lead = firsts[0]
    for k, j in itertools.product(range(len(rows)), repeat=2):
        if j != k and rows[j][rows[k].index(1)] != 0:
            return invalid("settled", (k, j))
    return len(rows)


class Accepted(unittest.TestCase):
    def test_all_small_books_have_as_their_rank_how_many_rows_they_have(self):
        for prime, size in ((2, 4), (3, 3), (5, 2), (7, 2), (11, 1), (13, 1)):
            for book in all_books(prime, size):
                self.assertEqual(shown(lets_book(book)), shown(len(book[2])))

    def test_no_rows_all_words_and_great_sizes(self):
        self.assertEqual(lets_book((13, 1, ())), 0)
        self.assertEqual(lets_book((13, 10 ** 60 - 1, ())), 0)
        for prime in PRIMES:
            units = tuple(tuple(1 if k == place else 0 for k in range(40)) for place in range(40))
            self.assertEqual(lets_book((prime, 40, units)), 40)

    def test_books_by_chance(self):
        chance = chance_of(5)
        for prime in PRIMES:
            for size in (1, 2, 8, 23, 40):
                book = some_book(chance, prime, size)
                self.assertEqual(lets_book(book), len(book[2]))

    def test_by_name(self):
        self.assertEqual(lets_book(thing=KEEP), 2)


class Refused(unittest.TestCase):
    def test_each_triple_of_small_words(self):
        words = list(itertools.product(range(3), repeat=2))
        for many in range(4):
            for rows in itertools.product(words, repeat=many):
                thing = (3, 2, rows)
                told = judged_by_hand(thing)
                if isinstance(told, int):
                    self.assertEqual(lets_book(thing), told)
                else:
                    self.assertEqual(raised(lets_book, thing), told)

    def test_each_three_words_of_two(self):
        for rows in itertools.product(itertools.product(range(2), repeat=3), repeat=3):
            told = judged_by_hand((2, 3, rows))
            if not isinstance(told, int):
                self.assertEqual(raised(lets_book, (2, 3, rows)), told)

    def test_shape(self):
        things = (None, True, 5, 10 ** 59, "book 5 2", [], [*KEEP], (), (5,), (5, 2), (5, 2, (), ()), DEEP, ((5, 2, ()),))
        for thing in things:
            self.assertEqual(raised(lets_book, thing), invalid("shape"))

    def test_prime_ahead_of_all_behind(self):
        for prime in (None, True, False, 0, 1, 4, 6, 9, 15, 17, -5, "5", (5,), 10 ** 59):
            for size, rows in ((2, ()), (0, None), (True, ((),)), (2, ((0, 0),))):
                self.assertEqual(raised(lets_book, (prime, size, rows)), invalid("prime"))

    def test_size_ahead_of_the_rows(self):
        for size in (None, True, False, 0, -1, -(10 ** 59), "2", (2,), [2]):
            for rows in ((), None, ((0, 0),)):
                self.assertEqual(raised(lets_book, (5, size, rows)), invalid("size"))

    def test_rows(self):
        for rows in (None, True, 0, "row 1 0", [], [(1, 0)], 10 ** 59):
            self.assertEqual(raised(lets_book, (5, 2, rows)), invalid("rows"))

    def test_row(self):
        for row in (None, 1, "10", [1, 0], (1,), (1, 0, 0), (1, 5), (1, -1), (1, True), (True, 0), (1, None), ()):
            self.assertEqual(raised(lets_book, (5, 2, (row,))), invalid("row", 0))
            self.assertEqual(raised(lets_book, (5, 2, ((1, 0), row))), invalid("row", 1))
            self.assertEqual(raised(lets_book, (5, 2, ((1, 1), (0, 1), row))), invalid("row", 2))

    def test_all_checks_of_a_row_come_before_those_of_the_next(self):
        cases = [
            (((0, 0), None), ("nought", 0)), (((2, 0), None), ("first", 0)), ((None, (0, 0)), ("row", 0)),
            (((1, 0), (0, 0), None), ("nought", 1)), (((0, 1), (1, 0), None), ("first", 1)),
            (((1, 0), (1, 0), (0, 0)), ("first", 1)), (((1, 1), (0, 1), (0, 0)), ("nought", 2)),
            (((1, 1), (0, 1), (0, 2)), ("first", 2)), (((0, 4), (0, 0)), ("first", 0)),
        ]
        for rows, (word, at) in cases:
            self.assertEqual(raised(lets_book, (5, 2, rows)), invalid(word, at))

    def test_settled_goes_by_the_row_that_begins_then_by_the_other_one(self):
        cases = [
            (((1, 1, 0), (0, 1, 0)), (1, 0)), (((1, 0, 2), (0, 1, 3), (0, 0, 1)), (2, 0)),
            (((1, 0, 0), (0, 1, 3), (0, 0, 1)), (2, 1)), (((1, 4, 2), (0, 1, 3), (0, 0, 1)), (1, 0)),
        ]
        for rows, at in cases:
            self.assertEqual(raised(lets_book, (5, 3, rows)), invalid("settled", at))

    def test_odd_values(self):
        for thing in ODD:
            if not (isinstance(thing, tuple) and len(thing) == 3):
                self.assertEqual(raised(lets_book, thing), invalid("shape"))
        self.assertEqual(raised(lets_book, (2, True, ())), invalid("size"))
        self.assertEqual(raised(lets_book, (True, 1, ())), invalid("prime"))


if __name__ == "__main__":
    unittest.main()
