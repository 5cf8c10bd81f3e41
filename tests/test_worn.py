"""[80], [82] and (G6) of [10]: shelves that wear out, and bounds on how few rounds are enough."""

import itertools
import math
import unittest

from starshelves.reading import reads
from starshelves.rounds import best_lots, least_rounds, unit_marks
from starshelves.worn import hidden_depth, is_bound_met, points_bound, rounds_bound
from tests.helper import (
    HALL, HIDE, KEEP, LONG, NO_LOTS, NO_NUMBERS, PRIMES, all_words, check_refused, great_left, is_free_by_hand, is_free_by_rows, lots_below,
    not_usable, raised, rank_of_rows, rest_of, shown, some_book, chance_of, some_halls, some_lot, some_word, star_by_hand, tiny_halls, words_by_hand,
)

REFUSED = {"silent": NO_LOTS, "wear": NO_NUMBERS}


def worn_by_hand(hall, silent, wear):
    """The silent lot with any so many other shelves, all if they are fewer, added."""
    others = rest_of(hall[0][1], silent)
    return [tuple(sorted((*silent, *more))) for more in itertools.combinations(others, min(wear, len(others)))]


def depth_by_hand(hall):
    """The greatest number such that each lot of so many shelves is free in hide."""
    size = hall[0][1]
    return max(many for many in range(size + 1) if all(is_free_by_rows(hall[1], lot) for lot in itertools.combinations(range(size), many)))


def has_dead_place(book):
    return any(not any(row[place] for row in book[2]) for place in range(book[1]))


def points_by_hand(hall, silent_many, wear):
    """What points_bound is, by its point."""
    size, k, t = hall[0][1], len(hall[0][2]), depth_by_hand(hall)
    if t == 0 or has_dead_place(hall[0]):
        return 0
    d = size - silent_many - wear - k - t + 1
    return math.ceil(k / d) if d > 0 else None


def drawn(seed, most=130):
    """Tiny halls with a silent lot, and some of up to eight shelves."""
    for hall, chance in tiny_halls(seed, most):
        yield hall, some_lot(chance, hall[0][1])[:chance.randint(0, 2)], chance
    for at, (hall, silent, _, chance) in enumerate(great_left(seed + 1, 2)):
        if at % 2 == seed % 2:
            yield hall, silent[:2], chance


def free_halls(seed):
    """Halls in which each lot of so many shelves is free in hide, and no place is 0 in all words of keep."""
    chance = chance_of(seed)
    for prime in PRIMES:
        for size in range(1, 8):
            for _ in range(12):
                keep = some_book(chance, prime, size, chance.randint(1, min(size, 5)))
                hall = (keep, some_book(chance, prime, size, chance.randint(1, min(size, 5))))
                if not has_dead_place(keep) and depth_by_hand(hall) > 0:
                    yield hall, chance


class Bounds(unittest.TestCase):
    """[80]."""

    def test_rounds_bound_is_the_greatest_of_all_worn_lots(self):
        seen = set()
        for hall, silent, _ in drawn(321):
            for wear in (0, 1, 2, hall[0][1], hall[0][1] + 1, LONG):
                fewest = [least_rounds(hall, lot) for lot in worn_by_hand(hall, silent, wear)]
                told = None if None in fewest else max(fewest)
                self.assertEqual(shown(rounds_bound(hall, silent, wear)), shown(told))
                seen.add(told)
        self.assertLessEqual({None, 1, 2, 3}, seen)

    def test_wear_of_0_and_of_more_shelves_than_there_are(self):
        for hall, silent, _ in drawn(322, 60):
            self.assertEqual(rounds_bound(hall, silent, 0), least_rounds(hall, silent))
            for wear in (hall[0][1] - len(silent), hall[0][1], LONG):
                self.assertIsNone(rounds_bound(hall, silent, wear))
                self.assertIs(is_bound_met(hall, silent, wear), False)
            everywhere = tuple(range(hall[0][1]))
            self.assertEqual([rounds_bound(hall, everywhere, 0), is_bound_met(hall, everywhere, 0)], [None, False])

    def test_is_bound_met(self):
        seen = set()
        for hall, silent, _ in drawn(323):
            heard = hall[0][1] - len(silent)
            for wear in (0, 1, 2) if hall[0][1] > 5 else range(hall[0][1] + 2):
                bound = rounds_bound(hall, silent, wear)
                told = bound is not None and math.comb(heard - 1, wear) < hall[0][0]
                self.assertIs(is_bound_met(hall, silent, wear), told)
                seen.add((told, bound is None))
        self.assertLessEqual({(True, False), (False, False), (False, True)}, seen)

    def test_as_many_ways_as_the_prime(self):
        # One less than the shelves that are heard are as many as the prime: so many ways for one shelf are too many.
        for prime, met in ((2, False), (3, False), (5, True)):
            hall = ((prime, 4, ((1, 1, 1, 1),)), (prime, 4, ()))
            self.assertEqual([rounds_bound(hall, (), 1), is_bound_met(hall, (), 1), is_bound_met(hall, (), 0)], [1, met, True])
            self.assertIs(is_bound_met(hall, (2,), 1), prime > 2)

    def test_hidden_depth(self):
        seen = set()
        for hall, chance in [*tiny_halls(324), *some_halls(325, 4)]:
            self.assertEqual(shown(hidden_depth(hall)), shown(depth_by_hand(hall)))
            seen.add(hidden_depth(hall) - hall[0][1])
            for lot in lots_below(hall[0][1]) if hall[0][1] < 4 else ():
                if len(lot) <= hidden_depth(hall):
                    self.assertTrue(is_free_by_hand(hall[1], lot))
        self.assertIn(0, seen)

    def test_hidden_depth_0_and_the_size(self):
        for prime in PRIMES:
            keep = (prime, 3, ((1, 1, 1),))
            self.assertEqual(hidden_depth((keep, (prime, 3, ()))), 0)
            self.assertEqual(hidden_depth((keep, (prime, 3, ((1, 1, 0),)))), 0)
            self.assertEqual(hidden_depth((keep, (prime, 3, ((1, 0, 0), (0, 1, 0), (0, 0, 1))))), 3)
            self.assertEqual(hidden_depth((keep, (prime, 3, ((1, 0, 1), (0, 1, 1))))), 2)

    def test_points_bound(self):
        seen = set()
        for hall, silent, chance in [*drawn(326), *[(hall, some_lot(chance, hall[0][1])[:2], chance) for hall, chance in free_halls(327)]]:
            for wear in (0, 1, 2, 8, LONG):
                told = points_by_hand(hall, len(silent), wear)
                self.assertEqual(shown(points_bound(hall, silent, wear)), shown(told))
                seen.add(told)
        self.assertLessEqual({None, 0, 1, 2}, seen)

    def test_a_place_that_is_0_in_all_words_of_keep(self):
        dead = ((5, 4, ((1, 0, 4, 0), (0, 1, 2, 0))), HIDE)
        self.assertEqual([points_bound(dead, silent, wear) for silent in ((), (0, 1, 2, 3)) for wear in (0, 1, LONG)], [0] * 6)
        self.assertEqual(shown(points_bound((KEEP, (5, 4, ())), (), LONG)), "0")
        self.assertEqual([points_bound(HALL, (), wear) for wear in (0, 1, 2)], [1, 2, None])

    def test_wrong_values(self):
        for call in (rounds_bound, is_bound_met, points_bound):
            check_refused(self, call, (HALL,), {"silent": (0,), "wear": 1}, REFUSED)
            check_refused(self, call, ((KEEP, (5, 4, ())),), {"silent": (0, 1, 2, 3), "wear": 0}, REFUSED)
        self.assertEqual(raised(points_bound, HALL, (0,), True), not_usable("wear"))


class Consequences(unittest.TestCase):
    """[82], at many inputs."""

    def test_no_plan_of_fewer_rounds_reads_in_spite_of_each_worn_lot(self):
        for hall, chance in tiny_halls(331, 32):
            marks = all_words(*hall[0][:2])
            for wear in (0, 1, 2):
                bound, lots = rounds_bound(hall, (), wear), worn_by_hand(hall, (), wear)
                for many in (1, 2):
                    if (bound is None or many < bound) and len(marks) ** many < 1100:
                        for plan in itertools.combinations_with_replacement(marks, many):
                            self.assertFalse(all(reads(hall, plan, (lot,) * many) for lot in lots))

    def test_if_the_bound_is_met_some_plan_of_just_so_many_rounds_reads(self):
        met = 0
        for hall, silent, chance in drawn(333, 130):
            for wear in (1, 2):
                if not is_bound_met(hall, silent, wear):
                    continue
                many, lots = rounds_bound(hall, silent, wear), worn_by_hand(hall, silent, wear)
                self.assertTrue(self.some_plan_reads(hall, many, lots, chance), (hall, silent, wear))
                met += many > 1
        self.assertGreater(met, 3)

    def some_plan_reads(self, hall, many, lots, chance):
        """Whether some plan of so many rounds reads in spite of each lot: drawn ones, then all."""
        plans = (tuple(some_word(chance, *hall[0][:2]) for _ in range(many)) for _ in range(300))
        marks = all_words(*hall[0][:2]) if hall[0][0] ** hall[0][1] < 200 else []
        for plan in itertools.chain(plans, itertools.combinations_with_replacement(marks, many)):
            if all(reads(hall, plan, (lot,) * many) for lot in lots):
                return True
        return False

    def test_points_bound_is_at_most_rounds_bound(self):
        for hall, silent, chance in [*drawn(335), *[(hall, some_lot(chance, hall[0][1])[:1], chance) for hall, chance in free_halls(336)]]:
            for wear in (0, 1, 2, LONG):
                low, high = points_bound(hall, silent, wear), rounds_bound(hall, silent, wear)
                if low is None:
                    self.assertIsNone(high)
                elif high is not None:
                    self.assertLessEqual(low, high)


class Guaranteed(unittest.TestCase):
    """(G6), and (G5) for single lots."""

    def test_the_star_has_such_a_rank(self):
        for hall, _ in free_halls(341):
            prime, size, rows = hall[0]
            products = [tuple(left * right % prime for left, right in zip(one, other)) for one in rows for other in hall[1][2]]
            rank = rank_of_rows(prime, products)
            for t in range(1, depth_by_hand(hall) + 1):
                self.assertGreaterEqual(rank, min(size, len(rows) + t - 1))

    def test_no_plan_reads_with_fewer_rounds(self):
        for hall, chance in free_halls(342):
            size, k = hall[0][1], len(hall[0][2])
            for t in range(1, depth_by_hand(hall) + 1):
                silent = some_lot(chance, size)[:2]
                d, least = size - len(silent) - k - t + 1, least_rounds(hall, silent)
                if d <= 0:
                    self.assertIsNone(least)
                elif least is not None:
                    self.assertGreaterEqual(least * d, k)

    def test_no_plan_at_all_of_tiny_halls(self):
        for hall, chance in tiny_halls(343, 27):
            if depth_by_hand(hall) == 0 or has_dead_place(hall[0]):
                continue
            for wear in range(hall[0][1] + 1):
                d = points_bound(hall, (), wear)
                for lot in worn_by_hand(hall, (), wear):
                    if d is None:
                        self.assertFalse(any(reads(hall, (one, other), (lot, lot)) for one in all_words(*hall[0][:2]) for other in all_words(*hall[0][:2])))

    def test_the_star_of_tiny_halls_by_all_its_words(self):
        for hall, _ in tiny_halls(344, 60):
            if depth_by_hand(hall) > 0 and not has_dead_place(hall[0]):
                least = min(hall[0][1], len(hall[0][2]) + depth_by_hand(hall) - 1)
                self.assertGreaterEqual(len(star_by_hand(hall)), hall[0][0] ** least)
                self.assertGreaterEqual(len(star_by_hand(hall)), len(words_by_hand(hall[0])))

    def test_units_of_best_lots_read_for_each_worn_lot_alone(self):
        for hall, silent, _ in drawn(345, 60):
            bound = rounds_bound(hall, silent, 1)
            for lot in worn_by_hand(hall, silent, 1) if bound is not None else ():
                lots = best_lots(hall, lot)
                self.assertLessEqual(len(lots), bound)
                self.assertIs(reads(hall, unit_marks(hall[0][1], lots), (lot,) * len(lots)), True)


if __name__ == "__main__":
    unittest.main()
