"""[83], [84] and (G6) of [10]: halls of points."""

import itertools
import math
import unittest

from starshelves.kinds import is_book
from starshelves.lying import bears, most_liars
from starshelves.pointhalls import points_hall, points_plan, points_rounds
from starshelves.reading import reads
from starshelves.rounds import least_rounds
from starshelves.worn import hidden_depth, points_bound
from tests.helper import (
    HALL, LONG, NO_NUMBERS, ODD, PRIMES, chance_of, check_refused, rest_of, shown, words_by_hand,
)

NO_PRIMES = (*[thing for thing in ODD if thing != 5], 0, 1, 4, 6, 9, 15, 17, LONG, (5,), "5")
NO_POINTS = (
    *[thing for thing in ODD if thing not in ((-1, 0),)], (-1, 0), 5, (), (0, 0), (0, 5), (0, 1, 2, 3, 4, 0), [0, 1], (0, True), (0, None), (0, "1"),
    ((0, 1),), "01", (1, 2, 1),
)
NO_RANKS = (None, True, False, 0, -1, 4, LONG, -LONG, "1", (1,), [1], ())
REFUSED = {"prime": NO_PRIMES, "points": NO_POINTS, "kept": NO_RANKS, "hidden": NO_RANKS, "silent_many": NO_NUMBERS, "lying": NO_NUMBERS}


def values_by_hand(prime, points, rank):
    """The set of the values at the points of all polynomials of degree below rank."""
    return {
        tuple(sum(number * point ** degree for degree, number in enumerate(numbers)) % prime for point in points)
        for numbers in itertools.product(range(prime), repeat=rank)
    }


def rounds_by_hand(many, kept, hidden, silent_many, lying):
    """What points_rounds is, by its point, and d."""
    d = many - silent_many - 2 * lying - kept - hidden + 1
    return (math.ceil(kept / d) if d > 0 else None), d


def drawn(seed, most=8, many=4):
    """Points of all primes, in any order, with ranks and numbers of silent and of lying shelves."""
    chance = chance_of(seed)
    for prime in PRIMES:
        for size in range(1, min(prime, most) + 1):
            for _ in range(many):
                points = tuple(chance.sample(range(prime), size))
                kept, hidden = chance.randint(1, size), chance.randint(1, max(1, size // 2))
                yield prime, points, kept, hidden, chance.choice((0, 0, 1, 2)), chance.choice((0, 0, 0, 1, 2))


class Halls(unittest.TestCase):
    def test_words_are_the_values_of_all_polynomials(self):
        chance = chance_of(361)
        for prime in PRIMES:
            most = {2: 2, 3: 3, 5: 4, 7: 3, 11: 2, 13: 2}[prime]
            for size in range(1, prime + 1):
                points = tuple(chance.sample(range(prime), size))
                kept, hidden = chance.randint(1, min(size, most)), chance.randint(1, min(size, most))
                hall = points_hall(prime, points, kept, hidden)
                self.assertIsInstance(hall, tuple)
                self.assertEqual(len(hall), 2)
                for book, rank in zip(hall, (kept, hidden)):
                    self.assertTrue(is_book(book))
                    self.assertEqual([book[:2], len(book[2])], [(prime, size), rank])
                    self.assertEqual(words_by_hand(book), values_by_hand(prime, points, rank))

    def test_one_point_and_all_points(self):
        for prime in PRIMES:
            for point in range(prime):
                self.assertEqual(points_hall(prime, (point,), 1, 1), ((prime, 1, ((1,),)),) * 2)
                self.assertEqual([points_rounds(prime, (point,), 1, 1, 0, 0), points_plan(prime, (point,), 1, 1, 0, 0)], [None, None])
            points = tuple(range(prime))
            keep, hide = points_hall(prime, points, prime, 1)
            self.assertEqual([len(keep[2]), hide[2]], [prime, ((1,) * prime,)])
            self.assertEqual(points_hall(prime, points, 1, prime), (hide, keep))

    def test_kept_and_hidden_at_both_ends(self):
        for prime in PRIMES:
            size = min(prime, 8)
            points = tuple(range(size))
            for kept, hidden in itertools.product((1, size), repeat=2):
                told, d = rounds_by_hand(size, kept, hidden, 0, 0)
                self.assertEqual(shown(points_rounds(prime, points, kept, hidden, 0, 0)), shown(told))
                self.assertEqual(hidden_depth(points_hall(prime, points, kept, hidden)), hidden)


class Plans(unittest.TestCase):
    def test_rounds_and_marks(self):
        seen = set()
        for prime, points, kept, hidden, silent_many, lying in [*drawn(362, 13), *drawn(363, 13)]:
            given = (prime, points, kept, hidden, silent_many, lying)
            told, d = rounds_by_hand(len(points), kept, hidden, silent_many, lying)
            self.assertEqual(shown(points_rounds(*given)), shown(told))
            marks = told and tuple(tuple(point ** (hidden - 1 + (i + 1) * d) % prime for point in points) for i in range(told))
            self.assertEqual(shown(points_plan(*given)), shown(marks))
            seen.add(told)
        self.assertLessEqual({None, 1, 2, 3, 4, 5, 6}, seen)

    def test_d_is_not_above_0(self):
        points = (1, 2, 3, 4)
        for silent_many, lying in ((2, 0), (0, 1), (1, 1), (LONG, 0), (0, LONG), (LONG, LONG), (3, 0)):
            self.assertEqual([call(5, points, 2, 1, silent_many, lying) for call in (points_rounds, points_plan)], [None, None])
        self.assertEqual([points_rounds(5, points, 2, 1, silent_many, 0) for silent_many in (0, 1, 2)], [1, 2, None])
        self.assertEqual([points_rounds(5, points, 1, 1, 0, lying) for lying in (0, 1, 2)], [1, 1, None])

    def test_plans_read_in_spite_of_silent_and_lying_shelves(self):
        counted = 0
        for prime, points, kept, hidden, silent_many, lying in drawn(364, 8, 24):
            plan = points_plan(prime, points, kept, hidden, silent_many, lying)
            if plan is None or kept > 5:
                continue
            hall, size = points_hall(prime, points, kept, hidden), len(points)
            for silent in itertools.combinations(range(size), silent_many):
                for liars in itertools.combinations(rest_of(size, silent), 2 * lying):
                    lot = tuple(sorted((*silent, *liars)))
                    self.assertIs(reads(hall, plan, (lot,) * len(plan)), True)
                self.assertIs(bears(hall, plan, (silent,) * len(plan), 2 * lying), True)
            counted += lying > 0
        self.assertGreater(counted, 5)

    def test_least_rounds_without_lies_are_points_rounds(self):
        for prime, points, kept, hidden, silent_many, _ in drawn(366):
            hall, size = points_hall(prime, points, kept, hidden), len(points)
            if silent_many > size:
                continue
            told = points_rounds(prime, points, kept, hidden, silent_many, 0)
            for silent in list(itertools.combinations(range(size), silent_many))[:4]:
                self.assertEqual(shown(least_rounds(hall, silent)), shown(told))
                self.assertEqual(points_bound(hall, silent, 0), told)

    def test_all_points_of_each_prime(self):
        for prime in PRIMES[:4]:
            points = tuple(range(prime))
            for kept, hidden in itertools.product(range(1, min(prime, 5) + 1), range(1, prime + 1)):
                hall = points_hall(prime, points, kept, hidden)
                for lying in (0, 1):
                    plan = points_plan(prime, points, kept, hidden, 0, lying)
                    if plan is not None:
                        self.assertGreaterEqual(most_liars(hall, plan, ((),) * len(plan)), 2 * lying)


class Refused(unittest.TestCase):
    def test_wrong_values(self):
        given = {"prime": 5, "points": (0, 1, 4), "kept": 2, "hidden": 1}
        check_refused(self, points_hall, (), given, REFUSED)
        for call in (points_rounds, points_plan):
            check_refused(self, call, (), {**given, "silent_many": 0, "lying": 0}, REFUSED)
            check_refused(self, call, (), {**given, "silent_many": LONG, "lying": LONG}, REFUSED)

    def test_points_are_digits_of_the_prime(self):
        check_refused(self, points_hall, (), {"prime": 3, "points": (2, 0), "kept": 1, "hidden": 1}, {"points": ((0, 3), (2, 0, 4), (3,), (1, -1))})
        self.assertEqual(points_hall(5, (1, 2, 3, 4), 2, 1), HALL)


if __name__ == "__main__":
    unittest.main()
