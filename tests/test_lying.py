"""[69] and [72]: how many liars a plan bears, and what is sure in spite of them."""

import unittest

from starshelves.books import is_part, meet_of
from starshelves.kinds import is_book
from starshelves.lying import bears, most_liars, sure_sums
from starshelves.reading import reads, told_sums
from tests.helper import (
    HALL, LONG, NO_NUMBERS, NO_PLANS, PRIMES, check_refused, great_plans, is_blind_by_hand, lots_below, shown, some_plan,
    some_plans, some_silences, star_by_hand, words_by_hand,
)
from tests.test_reading import NO_SILENCES

ONE, ONES = ((1, 1, 0, 0),), ((1, 0, 0, 0), (0, 1, 0, 0), (0, 0, 1, 0))
NONE = ((), (), ())
REFUSED = {"plan": NO_PLANS, "silences": NO_SILENCES, "many": NO_NUMBERS}


def with_lot(silences, lot):
    """The silences with the lot added to each."""
    return tuple(tuple(sorted({*silent, *lot})) for silent in silences)


def lots_up_to(size, many):
    """All lots of at most so many places."""
    return [lot for lot in lots_below(size) if len(lot) <= many]


class Borne(unittest.TestCase):
    """[69], held against all lots of at most so many shelves."""

    def test_small_and_great_halls(self):
        told = set()
        for hall, plan, silences, _ in [*some_plans(241, 130, 2, 6), *great_plans(242, 4)]:
            size, most = hall[0][1], None
            for many in range(size + 2):
                fits = all(reads(hall, plan, with_lot(silences, lot)) for lot in lots_up_to(size, many))
                self.assertIs(bears(hall, plan, silences, many), fits)
                most = many if fits else most
            self.assertEqual(shown(most_liars(hall, plan, silences)), shown(most))
            told.add(most)
        self.assertLessEqual({None, 0, 1, 2}, told)

    def test_by_words_that_are_blind(self):
        for hall, plan, silences, _ in some_plans(243, 35, 2, 3):
            words, stars = sorted(words_by_hand(hall[0]))[1:], star_by_hand(hall)
            for many in range(hall[0][1] + 1):
                lots = [with_lot(silences, lot) for lot in lots_up_to(hall[0][1], many)]
                told = any(is_blind_by_hand(hall, plan, lot, word, stars) for lot in lots for word in words)
                self.assertIs(bears(hall, plan, silences, many), not told)

    def test_lots_are_of_all_shelves_silent_ones_too(self):
        # One shelf of five is silent: a lot of two may have it.
        hall = ((7, 5, ((1,) * 5,)), (7, 5, ()))
        self.assertEqual([most_liars(hall, ((1,) * 5,), (lot,)) for lot in ((), (0,), (0, 1), (0, 1, 2, 3), (0, 1, 2, 3, 4))],
                         [4, 3, 2, 0, None])

    def test_beyond_the_size(self):
        for hall, plan, silences, _ in great_plans(244, 2, 3):
            for many in (hall[0][1], hall[0][1] + 1, 60, LONG):
                self.assertIs(bears(hall, plan, silences, many), False)
                self.assertEqual(sure_sums(hall, plan, silences, many), (hall[0][0], len(hall[0][2]), ()))

    def test_one_shelf_and_each_prime(self):
        for prime in PRIMES:
            hall = ((prime, 1, ((1,),)), (prime, 1, ()))
            self.assertEqual([most_liars(hall, ((1,),), ((),)), most_liars(hall, ((0,),), ((),)), most_liars(hall, ((1,),), ((0,),))],
                             [0, None, None])

    def test_wrong_values(self):
        given = {"plan": ONE, "silences": ((),), "many": 0}
        check_refused(self, bears, (HALL,), given, REFUSED)
        check_refused(self, sure_sums, (HALL,), given, REFUSED)
        check_refused(self, most_liars, (HALL,), {"plan": ONE, "silences": ((),)}, REFUSED)
        check_refused(self, bears, (HALL,), {"plan": ((0,) * 4,), "silences": ((0, 1, 2, 3),), "many": LONG}, REFUSED)
        check_refused(self, bears, (HALL,), {"plan": ONES, "silences": NONE, "many": 1}, {"silences": (((),), NONE[:2], NONE * 2)})


class Sums(unittest.TestCase):
    def test_sums_told_with_each_lot_added(self):
        ranks = set()
        for hall, plan, silences, _ in [*some_plans(245, 130, 2, 6), *great_plans(246, 3)]:
            size = hall[0][1]
            for many in range(size + 1):
                told = told_sums(hall, plan, silences)
                for lot in lots_up_to(size, many):
                    told = meet_of(told, told_sums(hall, plan, with_lot(silences, lot)))
                book = sure_sums(hall, plan, silences, many)
                self.assertTrue(is_book(book))
                self.assertEqual(shown(book), shown(told))
                ranks.add((many > 0, 0 < len(book[2]) < len(hall[0][2])))
        self.assertEqual(len(ranks), 4)


class Consequences(unittest.TestCase):
    """[72], at many inputs."""

    def test_bears_for_0_is_reads(self):
        for hall, plan, silences, _ in great_plans(247, 5):
            self.assertIs(bears(hall, plan, silences, 0), reads(hall, plan, silences))
            self.assertEqual(sure_sums(hall, plan, silences, 0), told_sums(hall, plan, silences))

    def test_fewer_liars_and_rounds_more(self):
        for hall, plan, silences, chance in great_plans(248, 4, 4):
            more = some_plan(chance, hall)
            lots = some_silences(chance, hall, more)
            for many in range(hall[0][1]):
                if bears(hall, plan, silences, many + 1):
                    self.assertIs(bears(hall, plan, silences, many), True)
                if bears(hall, plan, silences, many):
                    self.assertIs(bears(hall, plan + more, silences + lots, many), True)

    def test_sure_sums_have_all_words_exactly_if_so_many_are_borne(self):
        for hall, plan, silences, _ in great_plans(249, 4, 6):
            for many in range(hall[0][1] + 1):
                book = sure_sums(hall, plan, silences, many)
                self.assertIs(bears(hall, plan, silences, many), len(book[2]) == len(hall[0][2]))
                self.assertTrue(is_part(sure_sums(hall, plan, silences, many + 1), book))


if __name__ == "__main__":
    unittest.main()
