"""[81]: shares of the least sum of prices."""

import itertools
import unittest

from starshelves.prices import cheapest_lots, least_price
from starshelves.rounds import least_rounds, rest_book
from tests.helper import (
    HALL, LONG, NO_LOTS, NO_NUMBERS, ODD, check_refused, great_left, is_free_by_rows, lots_below, not_usable, raised, rest_of, shown, small_halls,
    some_lot, tiny_halls,
)

NO_PRICES = (
    *ODD, 5, (), (1, 1, 1), (1, 1, 1, 1, 1), [1, 1, 1, 1], (1, 1, 1, -1), (1, True, 1, 1), (1, 1, False, 1), (None, 1, 1, 1), (1, "1", 1, 1),
    ((1, 1, 1, 1),), (1, 1, 1, (1,)), "1111",
)
REFUSED = {"silent": NO_LOTS, "many": NO_NUMBERS, "prices": NO_PRICES}
CALLS = (cheapest_lots, least_price)


def all_shares(hall, silent, many):
    """The lots of all places of any so many shares with as many shelves as keep has rows, by all ways to deal the shelves."""
    keep, rest = hall[0], rest_book(hall, silent)
    found = set()
    for deal in itertools.product(range(-1, many), repeat=keep[1]):
        places = tuple(place for place in range(keep[1]) if deal[place] >= 0)
        if places not in found and len(places) == len(keep[2]) and is_free_by_rows(keep, places):
            if all(is_free_by_rows(rest, [place for place in places if deal[place] == k]) for k in range(many)):
                found.add(places)
    return found


def some_prices(chance, size):
    """Prices by chance: small ones, great ones, or noughts."""
    most = chance.choice([0, 1, 5, 100, 10 ** 59])
    return tuple(chance.randint(0, most) for _ in range(size))


class Prices(unittest.TestCase):
    def check_shares(self, hall, silent, many, lots):
        """They are shares, so many, with as many shelves as keep has rows."""
        rest, keep = rest_book(hall, silent), hall[0]
        self.assertIsInstance(lots, tuple)
        self.assertEqual(len(lots), many)
        self.assertTrue(all(lot in lots_below(keep[1]) and is_free_by_rows(rest, lot) for lot in lots))
        places = sorted(place for lot in lots for place in lot)
        self.assertEqual([len(set(places)), len(places)], [len(keep[2])] * 2)
        self.assertTrue(is_free_by_rows(keep, places))

    def test_all_shares_of_small_halls(self):
        seen = set()
        for hall, chance in [*tiny_halls(351, 130, 3), *small_halls(352)]:
            size, silent = hall[0][1], some_lot(chance, hall[0][1])[:chance.randint(0, 2)]
            for many in range(4):
                found = all_shares(hall, silent, many)
                for prices in (some_prices(chance, size), some_prices(chance, size)):
                    told = min((sum(prices[place] for place in places) for places in found), default=None)
                    self.assertEqual(shown(least_price(hall, silent, many, prices)), shown(told), (hall, silent, many, prices))
                    lots = cheapest_lots(hall, silent, many, prices)
                    self.assertEqual(lots is None, told is None)
                    if lots is not None:
                        self.check_shares(hall, silent, many, lots)
                        self.assertEqual(sum(prices[place] for lot in lots for place in lot), told)
                seen.add((many, bool(found)))
        self.assertLessEqual({(0, False), (1, True), (1, False), (2, True), (3, True), (3, False)}, seen)

    def test_great_halls(self):
        for at, (hall, silent, _, chance) in enumerate(great_left(353)):
            size, least = hall[0][1], least_rounds(hall, silent)
            prices, more = some_prices(chance, size), None
            for many in (0, 1, 2, 3, 8) if at % 4 == 0 else (2,):
                price, lots = least_price(hall, silent, many, prices), cheapest_lots(hall, silent, many, prices)
                self.assertEqual(price is None, least is None or many < least)
                self.assertEqual(lots is None, price is None)
                if lots is not None:
                    self.check_shares(hall, silent, many, lots)
                    self.assertEqual(sum(prices[place] for lot in lots for place in lot), price)
                    self.assertTrue(more is None or price <= more)
                    more = price

    def test_many_of_0_and_beyond_what_is_needed(self):
        prices = (9, 1, 1, 4)
        self.assertEqual([(call(HALL, (), 0, prices), call(HALL, (0, 1), 8, prices)) for call in CALLS], [(None, None)] * 2)
        for many in range(1, 11):
            self.check_shares(HALL, (), many, cheapest_lots(HALL, (), many, prices))
            self.assertEqual(least_price(HALL, (), many, prices), 2)
        self.assertEqual(least_price(HALL, (), LONG, prices), 2)

    def test_prices_of_noughts_and_great_ones(self):
        self.assertEqual([least_price(HALL, (), 1, (0, 0, 0, 0)), least_price(HALL, (0,), 2, (0, 0, 0, 0))], [0, 0])
        self.check_shares(HALL, (0,), 2, cheapest_lots(HALL, (0,), 2, (0, 0, 0, 0)))
        self.assertEqual(least_price(HALL, (), 1, (LONG, LONG, LONG, LONG)), 2 * LONG)
        self.assertEqual(cheapest_lots(HALL, (), 1, (LONG, 0, LONG, 1)), ((1, 3),))
        self.assertEqual(least_price(HALL, (0,), 2, (0, LONG, 7, LONG)), LONG + 7)

    def test_only_what_costs_least_may_be_unlike(self):
        for prices in itertools.permutations((0, 1, 2, 4)):
            lots = cheapest_lots(HALL, (), 1, prices)
            self.assertEqual(sorted(prices[place] for place in lots[0]), [0, 1])
            lots = cheapest_lots(HALL, (2,), 2, prices)
            cheap = sorted(prices[place] for place in rest_of(4, (2,)))[:2]
            self.assertEqual(sorted(prices[place] for lot in lots for place in lot), cheap)

    def test_wrong_values(self):
        for call in CALLS:
            check_refused(self, call, (HALL,), {"silent": (0,), "many": 1, "prices": (1, 1, 1, 1)}, REFUSED)
            check_refused(self, call, (HALL,), {"silent": (0, 1), "many": 0, "prices": (0, 0, 0, 0)}, REFUSED)
            self.assertEqual(raised(call, HALL, (0,), 1, (1, 1, 1)), not_usable("prices"))


if __name__ == "__main__":
    unittest.main()
