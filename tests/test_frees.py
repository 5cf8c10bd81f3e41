"""[34] to [36]: free lots as objects."""

import itertools
import unittest

from starshelves.books import checks_of, cut_of, span_of, within_of
from starshelves.freelots import bases_of, is_free, rank_on
from starshelves.frees import Free
from starshelves.kinds import is_lot
from tests.helper import (
    KEEP, NO_LOTS, ODD, PAIRS, PRIMES, TURNED, all_books, chance_of, invalid, lots_below, not_usable, raised, rest_of,
    shown, some_book, some_lot,
)

def some_books(seed, many=4, most=8):
    """Books of up to eight places over all six primes, some with places that are 0 in all words."""
    chance = chance_of(seed)
    for prime in PRIMES:
        for _ in range(many):
            yield some_book(chance, prime, chance.randint(1, most), None, chance.randint(0, 2)), chance


class Made(unittest.TestCase):
    def test_errors_of_the_judge_of_books(self):
        for thing in ODD:
            if not (isinstance(thing, tuple) and len(thing) == 3):
                self.assertEqual(raised(Free, thing), invalid("shape"))
        cases = [
            ((4, 0, None), invalid("prime")), ((5, True, None), invalid("size")), ((5, 2, [(1, 0)]), invalid("rows")),
            ((5, 2, ((1, True),)), invalid("row", 0)), ((5, 2, ((0, 0),)), invalid("nought", 0)),
            ((5, 2, ((0, 1), (1, 0))), invalid("first", 1)), ((5, 2, ((1, 1), (0, 1))), invalid("settled", (1, 0))),
            (Free(KEEP), invalid("shape")),
        ]
        for thing, told in cases:
            self.assertEqual(raised(Free, thing), told)

    def test_of(self):
        self.assertIsInstance(vars(Free)["of"], classmethod)
        words = ((0, 2), (3, 1), (3, 0))
        self.assertEqual(shown(Free.of(5, 2, words).book_now), shown(span_of(5, 2, words)))
        self.assertEqual(Free.of(words=(), size=3, prime=7).book_now, (7, 3, ()))
        self.assertIs(Free.of(5, 2, ()).__class__, Free)
        for prime in (None, True, 4, "5"):
            self.assertEqual(raised(Free.of, prime, 0, None), not_usable("prime"))
        for size in (None, True, 0, -1, "2"):
            self.assertEqual(raised(Free.of, 5, size, None), not_usable("size"))
        for words in (None, [(1, 0)], ((1,),), ((1, 5),), ((1, True),), (1, 0)):
            self.assertEqual(raised(Free.of, 5, 2, words), not_usable("words"))


class Asked(unittest.TestCase):
    def test_book_rank_bases_and_free_lots(self):
        for book, _ in some_books(61):
            free = Free(book)
            self.assertEqual(shown(free.book_now), shown(book))
            self.assertEqual(len(free), len(book[2]))
            self.assertEqual(shown(list(free)), shown(list(bases_of(book))))
            for lot in lots_below(book[1]):
                self.assertEqual(shown(free(lot)), shown(rank_on(book, lot)))
                self.assertIs(lot in free, is_free(book, lot))

    def test_the_book_is_not_assigned(self):
        free = Free(KEEP)
        with self.assertRaises(AttributeError):
            free.book_now = PAIRS
        self.assertEqual(free.book_now, KEEP)

    def test_values_that_are_no_lots(self):
        free = Free(KEEP)
        for thing in NO_LOTS:
            self.assertIs(thing in free, False)
            self.assertEqual(raised(free, thing), not_usable("lot"))
        self.assertEqual([free(lot=(0, 1)), free(()), () in free], [2, 0, True])

    def test_equal_if_the_same_lots_are_free(self):
        books = all_books(2, 3) + all_books(3, 3)[::5] + all_books(2, 2) + [(5, 1, ()), (7, 1, ())]
        tables = [(book[1], [lot for lot in lots_below(book[1]) if is_free(book, lot)]) for book in books]
        objects = [Free(book) for book in books]
        for (one, left), (other, right) in itertools.product(zip(objects, tables), repeat=2):
            self.assertIs(one == other, left == right)
            self.assertIs(one != other, left != right)
        self.assertIs(Free((2, 3, ())) == Free((2, 2, ())), False)
        self.assertIs(Free((2, 1, ())) == Free((13, 1, ())), True)

    def test_nothing_else_is_equal(self):
        free = Free(PAIRS)
        for thing in (*ODD, PAIRS, list(free), tuple(free), 5, ((0, 2), (0, 3))):
            self.assertIs(free == thing, False)
            self.assertIs(thing == free, False)


class Together(unittest.TestCase):
    def pairs(self, seed):
        for one, chance in some_books(seed, 4, 6):
            yield one, some_book(chance, chance.choice(PRIMES), one[1], None, chance.randint(0, 1))

    def test_common_lots(self):
        for one, other in self.pairs(62):
            lot = Free(one) & Free(other)
            found = [lot for lot in lots_below(one[1]) if is_free(one, lot) and is_free(other, lot)]
            self.assertIn(lot, found)
            self.assertEqual(len(lot), max(map(len, found)))

    def test_pairs_of_lots_apart(self):
        for one, other in self.pairs(63):
            pair = Free(one) | Free(other)
            self.assertTrue(isinstance(pair, tuple) and len(pair) == 2)
            left, right = pair
            self.assertTrue(is_lot(one[1], left) and is_lot(one[1], right) and not set(left) & set(right))
            self.assertTrue(is_free(one, left) and is_free(other, right))
            lots = lots_below(one[1])
            lefts = [lot for lot in lots if is_free(one, lot)]
            rights = [lot for lot in lots if is_free(other, lot)]
            most = max(len(a) + len(b) for a in lefts for b in rights if not set(a) & set(b))
            self.assertEqual(len(left) + len(right), most)
            self.assertLessEqual(most, len(one[2]) + len(other[2]))

    def test_eight_places(self):
        for prime in PRIMES:
            book = some_book(chance_of(prime), prime, 8, 4)
            left, right = Free(book) | Free(checks_of(book))
            self.assertEqual(sorted((*left, *right)), list(range(8)))
            self.assertTrue(left in Free(book) and right in Free(checks_of(book)))

    def test_values_that_are_no_free_of_the_size(self):
        free = Free(PAIRS)
        for other in (*ODD, PAIRS, (), 5, Free((5, 3, ())), Free((5, 5, ())), list(free)):
            self.assertEqual(raised(free.__and__, other), not_usable("other"))
            self.assertEqual(raised(free.__or__, other), not_usable("other"))
        self.assertEqual(free.book_now, PAIRS)
        self.assertEqual(len(free & Free(TURNED)), 2)


class Changed(unittest.TestCase):
    def test_dual_without_and_beside_have_the_books_that_are_told(self):
        for book, chance in some_books(64):
            free = Free(book)
            self.assertEqual(shown(free.dual().book_now), shown(checks_of(book)))
            lot = some_lot(chance, book[1])
            rest = rest_of(book[1], lot)
            if rest:
                self.assertEqual(shown(free.without(lot).book_now), shown(cut_of(book, rest)))
                self.assertEqual(shown(free.beside(lot=lot).book_now), shown(cut_of(within_of(book, rest), rest)))
                self.assertEqual(free.without(lot=()).book_now, book)
                self.assertEqual(free.beside(()).book_now, book)
            self.assertEqual(free.book_now, book)

    def test_places_that_stay_are_counted_anew(self):
        for book, chance in some_books(65, 3, 6):
            free, lot = Free(book), some_lot(chance, book[1])
            rest = rest_of(book[1], lot)
            for part in lots_below(len(rest)) if rest else ():
                former = tuple(rest[place] for place in part)
                self.assertEqual(part in free.without(lot), former in free)
                self.assertEqual(free.beside(lot)(part), free(tuple(sorted((*former, *lot)))) - free(lot))

    def test_lots_that_are_none_or_all(self):
        free = Free(KEEP)
        for call in (free.without, free.beside):
            for lot in (*NO_LOTS, (0, 1, 2, 3)):
                self.assertEqual(raised(call, lot), not_usable("lot"))
        self.assertEqual(raised(Free((2, 1, ())).without, (0,)), not_usable("lot"))
        self.assertEqual(free.without((0, 1, 2)).book_now, (5, 1, ((1,),)))
        self.assertEqual(free.beside((0, 1, 2)).book_now, (5, 1, ()))


class Consequences(unittest.TestCase):
    """[36], at many inputs."""

    def test_free_in_the_dual(self):
        for book, _ in some_books(66):
            free = Free(book)
            dual = free.dual()
            for lot in lots_below(book[1]):
                self.assertIs(lot in dual, free(rest_of(book[1], lot)) == len(free))
            self.assertIs(dual.dual() == free, True)

    def test_dual_of_without_is_beside_of_dual(self):
        for book, _ in some_books(67, 2, 5):
            free = Free(book)
            for lot in lots_below(book[1])[:-1]:
                self.assertIs(free.without(lot).dual() == free.dual().beside(lot), True)
                self.assertIs(free.beside(lot).dual() == free.dual().without(lot), True)
                self.assertEqual(len(free.beside(lot)), len(free) - free(lot))


if __name__ == "__main__":
    unittest.main()
