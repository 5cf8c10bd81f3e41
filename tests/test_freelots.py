"""[25] to [28]: lots that are free in a book, and those that are not."""

import itertools
import unittest

from starshelves.books import checks_of
from starshelves.freelots import bases_of, closure_of, is_free, rank_on, ring_in, rings_of
from tests.helper import (
    KEEP, ODD, PAIRS, PRIMES, all_books, all_words, chance_of, cut_by_hand, lots_below, not_usable, rank_by_hand, raised,
    shown, some_book, some_lot, words_by_hand,
)

OF_A_LOT = (is_free, rank_on, closure_of, ring_in)
SMALL = [book for prime, size in ((2, 1), (2, 2), (2, 3), (2, 4), (3, 1), (3, 2), (3, 3), (5, 2), (13, 1))
         for book in all_books(prime, size)]


def some_books(seed):
    """Books of up to eight places over all six primes, some with places that are 0 in all words."""
    chance = chance_of(seed)
    for prime in PRIMES:
        for size in range(1, 9):
            yield some_book(chance, prime, size, None, chance.randint(0, 2)), chance


class SmallBooks(unittest.TestCase):
    """Held against going through all words and all lots."""

    def test_ranks_and_free_lots(self):
        for book in SMALL:
            prime, size, _ = book
            words = words_by_hand(book)
            for lot in lots_below(size):
                parts = cut_by_hand(words, lot)
                self.assertEqual(shown(rank_on(book, lot)), shown(rank_by_hand(prime, parts)))
                self.assertIs(is_free(book, lot), parts == set(all_words(prime, len(lot))))

    def test_closures(self):
        for book in SMALL:
            words = words_by_hand(book)
            for lot in lots_below(book[1]):
                noughts = [one for one in words if not any(one[place] for place in lot)]
                told = tuple(place for place in range(book[1]) if not any(one[place] for one in noughts))
                self.assertEqual(shown(closure_of(book, lot)), shown(told))

    def test_bases_and_rings(self):
        for book in SMALL:
            prime, size, rows = book
            lots, words = lots_below(size), words_by_hand(book)
            free = {lot for lot in lots if len(cut_by_hand(words, lot)) == prime ** len(lot)}
            bases = tuple(sorted(lot for lot in free if len(lot) == len(rows)))
            rings = [lot for lot in lots if lot not in free
                     and all(part in free for part in itertools.combinations(lot, len(lot) - 1))]
            self.assertEqual(shown(bases_of(book)), shown(bases))
            self.assertEqual(shown(rings_of(book)), shown(tuple(sorted(rings))))
            for lot in lots:
                inner = sorted(ring for ring in rings if set(ring) <= set(lot))
                self.assertEqual(shown(ring_in(book, lot)), shown(inner[0] if inner else None))


class Consequences(unittest.TestCase):
    """[28], at books of up to eight places, through all their lots."""

    def test_lots_within_free_ones_are_free(self):
        for book, _ in some_books(21):
            for lot in lots_below(book[1]):
                if is_free(book, lot):
                    self.assertTrue(all(is_free(book, part) for part in itertools.combinations(lot, max(0, len(lot) - 1))))

    def test_free_by_rank_and_by_rings(self):
        for book, _ in some_books(22):
            rings = rings_of(book)
            for lot in lots_below(book[1]):
                free = is_free(book, lot)
                self.assertEqual(free, rank_on(book, lot) == len(lot))
                self.assertEqual(free, not any(set(ring) <= set(lot) for ring in rings))
                self.assertEqual(free, ring_in(book, lot) is None)

    def test_greatest_free_lots_have_the_rank_as_their_size(self):
        for book, chance in some_books(23):
            for _ in range(10):
                lot = some_lot(chance, book[1])
                found = ()
                for place in chance.sample(lot, len(lot)):
                    if is_free(book, tuple(sorted((*found, place)))):
                        found = tuple(sorted((*found, place)))
                self.assertEqual(len(found), rank_on(book, lot))

    def test_two_lots_together_and_what_they_have_in_common(self):
        for book, chance in some_books(24):
            for _ in range(10):
                one, other = set(some_lot(chance, book[1])), set(some_lot(chance, book[1]))
                both, common = tuple(sorted(one | other)), tuple(sorted(one & other))
                apart = rank_on(book, tuple(sorted(one))) + rank_on(book, tuple(sorted(other)))
                self.assertLessEqual(rank_on(book, both) + rank_on(book, common), apart)

    def test_closures_have_the_lot_and_the_same_rank(self):
        for book, chance in some_books(25):
            for _ in range(10):
                lot = some_lot(chance, book[1])
                closure = closure_of(book, lot)
                self.assertLessEqual(set(lot), set(closure))
                self.assertEqual(rank_on(book, closure), rank_on(book, lot))
                self.assertEqual(closure_of(book, closure), closure)
                for place in set(range(book[1])) - set(closure):
                    self.assertEqual(rank_on(book, tuple(sorted((*lot, place)))), rank_on(book, lot) + 1)

    def test_rings_are_the_least_places_of_words_of_the_checks(self):
        for book in SMALL:
            lots = [{k for k, digit in enumerate(one) if digit} for one in words_by_hand(checks_of(book)) if any(one)]
            least = {tuple(sorted(lot)) for lot in lots if not any(other < lot for other in lots)}
            self.assertEqual(rings_of(book), tuple(sorted(least)))

    def test_bases_are_the_rests_of_bases_of_the_checks(self):
        for book, _ in some_books(26):
            rests = [tuple(k for k in range(book[1]) if k not in lot) for lot in bases_of(checks_of(book))]
            self.assertEqual(bases_of(book), tuple(sorted(rests)))


class Edges(unittest.TestCase):
    def test_no_rows_all_words_and_no_places(self):
        for prime in PRIMES:
            nothing, all_of = (prime, 3, ()), (prime, 3, ((1, 0, 0), (0, 1, 0), (0, 0, 1)))
            self.assertEqual([bases_of(nothing), rings_of(nothing)], [((),), ((0,), (1,), (2,))])
            self.assertEqual([bases_of(all_of), rings_of(all_of)], [((0, 1, 2),), ()])
            self.assertEqual([closure_of(nothing, ()), closure_of(all_of, ())], [(0, 1, 2), ()])
            self.assertEqual([is_free(nothing, ()), rank_on(nothing, (0, 1)), ring_in(nothing, ())], [True, 0, None])
            self.assertEqual([rank_on(all_of, (0, 2)), ring_in(all_of, (0, 1, 2))], [2, None])

    def test_one_place(self):
        self.assertEqual([bases_of((7, 1, ((1,),))), rings_of((7, 1, ()))], [((0,),), ((0,),)])
        self.assertEqual([is_free((7, 1, ((1,),)), (0,)), is_free((7, 1, ()), (0,))], [True, False])

    def test_rings_are_sorted_as_python_sorts(self):
        self.assertEqual(rings_of((2, 3, ((1, 0, 1),))), ((0, 2), (1,)))
        self.assertEqual(ring_in((2, 3, ((1, 0, 1),)), (0, 1, 2)), (0, 2))
        self.assertEqual(ring_in((2, 3, ((1, 0, 1),)), (1, 2)), (1,))

    def test_lots_that_are_none(self):
        for call in OF_A_LOT:
            for lot in (*ODD, (4,), (0, 4), (3, 0), (0, 0), ((0,),), 0, "0", (0, True), (10 ** 59,)):
                for book in (KEEP, PAIRS):
                    self.assertEqual(raised(call, book, lot), not_usable("lot"))


if __name__ == "__main__":
    unittest.main()
