"""[77]: shares for rounds with unlike silent lots."""

import unittest

from starshelves.freelots import is_free
from starshelves.reading import told_rank
from starshelves.rounds import cut_ratio, most_told, rest_book, unit_marks
from starshelves.unlike import cut_in, lots_in, most_in
from tests.helper import (
    HALL, LEFT, NO_LEFTS, NO_LOTS, ODD, check_refused, deals_by_hand, lots_below, point_halls, shown, some_halls, some_left, some_lot, some_plan,
    tiny_halls,
)

NO_SILENCES = (
    *[thing for thing in ODD if thing not in (((), ()), ((1,), (0,)))], 5, (), (0,), [(0,)], ([0],), ((4,),), ((1, 0),), ((0,), None),
    ((0,), (True,)), ((0,), (0, 0)), "0", (((0,),),), ((), (-1,)), *[((), lot) for lot in NO_LOTS],
)
REFUSED = {"silences": NO_SILENCES, "left": NO_LEFTS}


def drawn(seed, most=130, many=2):
    """Tiny halls with unlike silences and a book that is left."""
    for hall, chance in tiny_halls(seed, most, many):
        silences = tuple(some_lot(chance, hall[0][1])[:2] for _ in range(chance.randint(1, 3)))
        yield hall, silences, some_left(chance, hall)


def great(seed):
    """Halls of up to eight shelves likewise, of up to eight rounds."""
    for hall, chance in some_halls(seed, 4):
        silences = tuple(some_lot(chance, hall[0][1])[:chance.randint(0, 4)] for _ in range(chance.randint(1, 8)))
        yield hall, silences, some_left(chance, hall) if hall[0][0] < 13 else None
    for hall, silent, chance in point_halls(seed, (7, 11)):
        yield hall, (silent, *[some_lot(chance, hall[0][1])[:2] for _ in range(chance.randint(0, 4))]), None


class Unlike(unittest.TestCase):
    def check_lots(self, hall, silences, left, lots):
        self.assertIsInstance(lots, tuple)
        self.assertEqual(len(lots), len(silences))
        for lot, silent in zip(lots, silences):
            self.assertIn(lot, lots_below(hall[0][1]))
            self.assertTrue(is_free(rest_book(hall, silent), lot))
        places = [place for lot in lots for place in lot]
        self.assertEqual(len(places), len(set(places)))
        self.assertTrue(is_free(left or hall[0], tuple(sorted(places))))
        self.assertEqual(len(places), most_in(hall, silences, left))

    def check_cut(self, hall, silences, left, cut):
        self.assertIn(cut, lots_below(hall[0][1]))
        ratios = [cut_ratio(hall, silent, cut, left) for silent in silences]
        told = len((left or hall[0])[2]) - ratios[0][0] + sum(second for _, second in ratios)
        self.assertEqual(told, most_in(hall, silences, left))

    def test_all_ways_to_deal_the_shelves_of_small_halls(self):
        for hall, silences, left in drawn(291, 35):
            rests = tuple(rest_book(hall, silent) for silent in silences)
            self.assertEqual(shown(most_in(hall, silences, left)), shown(deals_by_hand(left or hall[0], rests)))

    def test_lots_and_cuts(self):
        seen = set()
        for hall, silences, left in [*drawn(292), *great(293)]:
            lots = lots_in(hall, silences, left)
            self.check_lots(hall, silences, left, lots)
            self.check_cut(hall, silences, left, cut_in(hall, silences, left))
            seen.add((() in lots, len(set(lots)) > 1))
        self.assertEqual(len(seen), 4)

    def test_no_lot_has_a_lesser_sum(self):
        for hall, silences, left in great(294):
            for cut in lots_below(hall[0][1])[::9]:
                ratios = [cut_ratio(hall, silent, cut, left) for silent in silences]
                told = len((left or hall[0])[2]) - ratios[0][0] + sum(second for _, second in ratios)
                self.assertLessEqual(most_in(hall, silences, left), told)

    def test_the_same_lot_in_all_rounds(self):
        for hall, silences, left in [*drawn(295), *great(296)]:
            for many in (1, 2, 3, 8):
                self.assertEqual(most_in(hall, silences[:1] * many, left), most_told(hall, silences[0], many, left))

    def test_the_order_of_rounds_does_not_count(self):
        for hall, silences, left in great(297):
            self.assertEqual(most_in(hall, silences[::-1], left), most_in(hall, silences, left))
            self.check_lots(hall, silences[::-1], left, lots_in(hall, silences[::-1], left))

    def test_all_shelves_silent_and_left_without_rows(self):
        for hall, silences, _ in great(298):
            every, none = tuple(range(hall[0][1])), (*hall[0][:2], ())
            self.assertEqual([most_in(hall, (every,) * 2), lots_in(hall, (every,) * 2)], [0, ((), ())])
            self.assertEqual([most_in(hall, silences, none), lots_in(hall, silences, none)], [0, ((),) * len(silences)])
            self.check_cut(hall, silences, none, cut_in(hall, silences, none))
            self.check_cut(hall, (every,), None, cut_in(hall, (every,)))

    def test_left_none_is_for_keep(self):
        for hall, silences, _ in great(299):
            self.assertEqual(most_in(hall, silences), most_in(hall, silences, hall[0]))
            self.assertEqual(most_in(hall, silences), most_in(hall, silences, None))
            self.check_lots(hall, silences, None, lots_in(hall, silences))
            self.check_cut(hall, silences, None, cut_in(hall, silences))

    def test_unlike_silences_of_the_hall_of_the_examples(self):
        self.assertEqual([most_in(HALL, silences) for silences in (((),), ((0,),), ((0,), (1,)), ((0, 1), (2,)), ((0, 1), (2, 3)))],
                         [2, 1, 2, 1, 0])
        self.assertEqual([most_in(HALL, ((0,), (1,)), LEFT), most_in(left=LEFT, silences=((0, 1),), hall=HALL)], [1, 0])

    def test_wrong_values(self):
        for call in (most_in, lots_in, cut_in):
            check_refused(self, call, (HALL,), {"silences": ((0,), (1,)), "left": LEFT}, REFUSED)
            check_refused(self, call, (HALL,), {"silences": ((),), "left": None}, REFUSED)

    def test_marks_that_are_1_on_the_lots(self):
        for hall, silences, _ in [*drawn(300), *great(301)]:
            plan = unit_marks(hall[0][1], lots_in(hall, silences))
            self.assertEqual(told_rank(hall, plan, silences), most_in(hall, silences))

    def test_drawn_plans_tell_no_more(self):
        for hall, chance in tiny_halls(302):
            plan = some_plan(chance, hall, 3)
            silences = tuple(some_lot(chance, hall[0][1])[:2] for _ in plan)
            self.assertLessEqual(told_rank(hall, plan, silences), most_in(hall, silences))


if __name__ == "__main__":
    unittest.main()
