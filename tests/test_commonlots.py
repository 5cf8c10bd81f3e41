"""[25], [29], [30]: lots that are free in two books, and papers of greatest ones."""

import unittest

from starshelves.commonchecker import lets_common
from starshelves.commonlots import cheapest_common, common_cut, common_lot
from starshelves.freelots import is_free, rank_on
from starshelves.kinds import is_lot
from tests.helper import (
    HIDE, KEEP, ODD, PAIRS, PRIMES, TURNED, all_books, chance_of, invalid, lots_below, not_usable, raised, rest_of, shown,
    some_book,
)

LONG = 10 ** 60 - 1


def some_pairs(seed, most=6, many=3):
    """Pairs of books of one size, over like and unlike primes, some with places 0 in all words."""
    chance = chance_of(seed)
    for prime in PRIMES:
        for other in PRIMES:
            for _ in range(many):
                size = chance.randint(1, most)
                yield (some_book(chance, prime, size, None, chance.randint(0, 1)),
                       some_book(chance, other, size, None, chance.randint(0, 1)), chance)


def common_by_hand(one, other):
    """All lots that are free in both books."""
    return [lot for lot in lots_below(one[1]) if is_free(one, lot) and is_free(other, lot)]


class Greatest(unittest.TestCase):
    def check(self, one, other):
        lot, cut = common_lot(one, other), common_cut(one, other)
        self.assertTrue(is_lot(one[1], lot) and is_lot(one[1], cut))
        found = common_by_hand(one, other)
        self.assertIn(lot, found)
        self.assertEqual(len(lot), max(map(len, found)))
        self.assertEqual(rank_on(one, rest_of(one[1], cut)) + rank_on(other, cut), len(lot))
        self.assertEqual(shown(lets_common(one, other, ("common", lot, cut))), shown(len(lot)))

    def test_pairs_over_all_primes_and_unlike_ones(self):
        for one, other, _ in some_pairs(31):
            self.check(one, other)

    def test_all_pairs_of_small_books(self):
        books = all_books(2, 3) + all_books(3, 3)[::7]
        for one in books:
            for other in books:
                self.check(one, other)

    def test_eight_places(self):
        chance = chance_of(32)
        for prime in PRIMES:
            self.check(some_book(chance, prime, 8, 4, 1), some_book(chance, 13, 8, 4, 1))

    def test_edges(self):
        for prime in PRIMES:
            nothing, all_of = (prime, 2, ()), (prime, 2, ((1, 0), (0, 1)))
            self.assertEqual(shown(common_lot(nothing, all_of)), "()")
            self.assertEqual(shown(common_lot(all_of, nothing)), "()")
            self.assertEqual(shown(common_lot(all_of, (13, 2, ((1, 0), (0, 1))))), "(0, 1)")
            self.assertEqual(common_lot((prime, 2, ((1, 0),)), (2, 2, ((0, 1),))), ())
            for other in (nothing, all_of, (5, 2, ((0, 1),))):
                self.check(nothing, other)
                self.check(all_of, other)
        self.check((2, 1, ()), (3, 1, ((1,),)))
        self.check((2, 1, ((1,),)), (3, 1, ((1,),)))


class Cheapest(unittest.TestCase):
    def test_held_against_going_through_all_lots(self):
        for one, other, chance in some_pairs(33):
            found = common_by_hand(one, other)
            for most in (1, 3, LONG):
                prices = tuple(chance.randint(0, most) for _ in range(one[1]))
                for size in range(one[1] + 2):
                    sums = [sum(prices[place] for place in lot) for lot in found if len(lot) == size]
                    lot = cheapest_common(one, other, prices, size)
                    if not sums:
                        self.assertIsNone(lot)
                    else:
                        self.assertIn(lot, found)
                        self.assertEqual(len(lot), size)
                        self.assertEqual(sum(prices[place] for place in lot), min(sums))

    def test_noughts_long_prices_and_sizes_that_no_lot_has(self):
        self.assertEqual(shown(cheapest_common(KEEP, HIDE, (0, 0, 0, 0), 0)), "()")
        self.assertEqual(len(cheapest_common(PAIRS, TURNED, (0, 0, 0, 0), 2)), 2)
        self.assertEqual(cheapest_common(KEEP, HIDE, (LONG, LONG - 1, LONG, LONG), 1), (1,))
        self.assertEqual(cheapest_common(PAIRS, TURNED, (LONG, LONG, LONG - 1, LONG), 2), (1, 2))
        for size in (2, 4, 5, 99, LONG):
            self.assertIsNone(cheapest_common(KEEP, HIDE, (0, 0, 0, 0), size))
        self.assertIsNone(cheapest_common((5, 1, ()), (7, 1, ((1,),)), (3,), 1))

    def test_prices_ahead_of_size(self):
        odd = (None, 5, "1 1 1 1", [1, 1, 1, 1], (), (1, 1, 1), (1,) * 5, (1, 1, 1, -1), (1, 1, 1, True), (1, 1, 1, None),
               (1, 1, 1, "1"), ((1,), 1, 1, 1), *ODD)
        for prices in odd:
            for size in (1, None, True):
                self.assertEqual(raised(cheapest_common, KEEP, HIDE, prices, size), not_usable("prices"))
        for size in (None, True, False, -1, -LONG, "1", (1,), [1], ()):
            self.assertEqual(raised(cheapest_common, KEEP, HIDE, (1, 1, 1, 1), size), not_usable("size"))


class Papers(unittest.TestCase):
    def judged_by_hand(self, one, other, lot, cut):
        """What the list of [30] says of a paper of lots."""
        if not is_free(one, lot):
            return invalid("one")
        if not is_free(other, lot):
            return invalid("other")
        if rank_on(one, rest_of(one[1], cut)) + rank_on(other, cut) > len(lot):
            return invalid("more")
        return len(lot)

    def test_all_papers_of_small_books(self):
        for one, other, _ in some_pairs(34, 4, 1):
            most = len(common_lot(one, other))
            for lot in lots_below(one[1]):
                for cut in lots_below(one[1]):
                    told = self.judged_by_hand(one, other, lot, cut)
                    if isinstance(told, int):
                        self.assertEqual(lets_common(one, other, ("common", lot, cut)), told)
                        self.assertEqual(told, most)
                    else:
                        self.assertEqual(raised(lets_common, one, other, ("common", lot, cut)), told)

    def refused(self, thing, word):
        self.assertEqual(raised(lets_common, PAIRS, TURNED, thing), invalid(word))

    def test_shape(self):
        whole = ("common", (0, 3), ())
        for thing in (*ODD, 5, "common", list(whole), whole[:2], whole + ((),), ("Common", (0, 3), ()), ("joint", (0, 3), ()),
                      (1, (0, 3), ()), (True, (0, 3), ()), (("common",), (0, 3), ()), ()):
            self.refused(thing, "shape")

    def test_each_entry_with_further_ones_behind_it(self):
        for lot in (None, 3, "0", [0, 3], (3, 0), (0, 0), (4,), (True,), (-1,), ((0,),)):
            for cut in ((), None):
                self.refused(("common", lot, cut), "lot")
        for cut in ((), None):
            self.refused(("common", (0, 1), cut), "one")
            self.refused(("common", (0, 1, 2), cut), "one")
            self.refused(("common", (0, 2), cut), "other")
            self.refused(("common", (1, 3), cut), "other")
        for cut in (None, 3, "-", [0], (3, 0), (0, 0), (4,), (True,), (-1,)):
            self.refused(("common", (0, 3), cut), "cut")
            self.refused(("common", (0,), cut), "cut")
        for cut in ((), (0, 1, 2, 3)):
            self.refused(("common", (0,), cut), "more")
            self.refused(("common", (), cut), "more")
        self.refused(("common", (0, 3), (0,)), "more")
        self.assertEqual(lets_common(PAIRS, TURNED, ("common", (0, 3), (0, 1, 2, 3))), 2)


if __name__ == "__main__":
    unittest.main()
