"""[71]: plans as objects."""

import unittest

from starshelves.lying import most_liars
from starshelves.plans import Plan, Units
from starshelves.readchecker import lets_read
from starshelves.reading import read_numbers, reads, told_rank
from starshelves.rounds import unit_marks
from tests.helper import (
    HALL, HIDE, KEEP, LONG, NO_LOTS, NO_WORDS, ODD, all_words, check_refused, fields_of, great_plans, lots_below, not_usable,
    raised, shown, some_halls, some_lot,
)

ONE, ONES = ((1, 1, 0, 0),), ((1, 0, 0, 0), (0, 1, 0, 0), (0, 0, 1, 0))


def refused_at(name, at):
    """What raised gives for one of any number of arguments."""
    return "NotUsable", {"word": name, "at": at}


class Made(unittest.TestCase):
    def test_properties_and_marks(self):
        for hall, plan, _, _ in great_plans(251):
            one = Plan(hall, *plan)
            self.assertEqual(shown([one.hall_now, one.marks_now]), shown([hall, plan]))
            self.assertEqual(shown([one[index] for index in range(len(plan))]), shown(list(plan)))
            self.assertEqual(shown(list(one)), shown(list(plan)))
            self.assertEqual(len(one), len(plan))
            for index in (len(plan), -1, None, True, False, "0", (0,), [0], LONG, -LONG):
                self.assertEqual(raised(one.__getitem__, index), not_usable("index"))

    def test_properties_are_not_assigned(self):
        one = Units(HALL, (0,))
        for name in ("hall_now", "marks_now", "lots_now"):
            with self.assertRaises(AttributeError):
                setattr(one, name, 1)

    def test_marks_that_are_none(self):
        for wrong in NO_WORDS:
            self.assertEqual(raised(Plan, HALL, wrong), refused_at("marks", 0))
            self.assertEqual(raised(Plan, HALL, *ONES, wrong), refused_at("marks", 3))
            self.assertEqual(raised(Plan, HALL, ONES[0], wrong, None, ONES[1]), refused_at("marks", 1))
        self.assertEqual(raised(Plan, HALL), not_usable("marks"))
        self.assertEqual(raised(Plan, hall=HALL), not_usable("marks"))
        self.assertEqual(raised(Plan, HALL, ONES), refused_at("marks", 0))

    def test_marks_that_are_in_it(self):
        one = Plan(HALL, *ONES)
        self.assertEqual([mark for mark in all_words(5, 4) if mark in one], sorted(ONES))
        for thing in (*NO_WORDS, (True, 0, 0, 0), (1, False, 0, 0), [1, 0, 0, 0], ONES, one, 1, None, (1, 0, 0)):
            self.assertIs(thing in one, False)

    def test_equality(self):
        one = Plan(HALL, *ONES)
        self.assertIs(one == Plan(HALL, *ONES), True)
        self.assertIs(one != Plan(HALL, *ONES), False)
        for same in (Derived(HALL, *ONES), Units(HALL, (0,), (1,), (2,))):
            self.assertIs(one == same, True)
            self.assertIs(same == one, True)
        others = (Plan(HALL, *ONES[:2]), Plan(HALL, *ONES[::-1]), Plan((KEEP, KEEP), *ONES), Plan((HIDE, KEEP), *ONES), ONES, list(ONES),
                  (HALL, *ONES), None, 1, Units(HALL, (0,), (1,)))
        for other in others:
            self.assertIs(one == other, False)
            self.assertIs(other == one, False)
            self.assertIs(one != other, True)


class Joined(unittest.TestCase):
    def test_rounds_of_another_plan_behind(self):
        for hall, plan, _, _ in great_plans(252):
            for one, other in ((Plan(hall, *plan), Plan(hall, plan[0])), (Plan(hall, plan[0]), Plan(hall, *plan)),
                               (Units(hall, (0,)), Derived(hall, *plan)), (Derived(hall, *plan), Units(hall, ()))):
                both = one + other
                self.assertIs(both.__class__, Plan)
                self.assertEqual(shown(both.marks_now), shown(one.marks_now + other.marks_now))
                self.assertEqual(both.hall_now, hall)
            self.assertEqual(one.marks_now, plan)

    def test_others_that_are_no_plan_of_an_equal_hall(self):
        one = Plan(HALL, *ONES)
        for other in (*ODD, ONES, ONE, None, 5, Plan((KEEP, KEEP), *ONES), Plan((HIDE, HIDE), *ONES), Units((KEEP, (5, 4, ())), (0,)), HALL):
            self.assertEqual(raised(one.__add__, other), not_usable("other"))
        self.assertEqual(one.marks_now, ONES)
        self.assertEqual(raised(lambda: one + ONES), not_usable("other"))


class Asked(unittest.TestCase):
    """With the same lot silent in all rounds."""

    def test_as_the_functions_tell(self):
        for hall, plan, _, chance in great_plans(253, 5):
            one = Plan(hall, *plan)
            for silent in ((), some_lot(chance, hall[0][1])[:1], some_lot(chance, hall[0][1]), tuple(range(hall[0][1]))):
                silences = (silent,) * len(plan)
                self.assertIs(one(silent), reads(hall, plan, silences))
                self.assertEqual(shown(one.told(silent)), shown(told_rank(hall, plan, silences)))
                self.assertEqual(shown(one.borne(silent)), shown(most_liars(hall, plan, silences)))
                numbers = raised(one.numbers, silent)
                self.assertEqual(shown(numbers), shown(raised(read_numbers, hall, plan, silences)))
                if one(silent):
                    self.assertIs(lets_read(hall, plan, silences, ("read", one.numbers(silent))), True)
                else:
                    self.assertEqual(numbers[0], "Unreadable")

    def test_lots_that_are_none(self):
        for one in (Plan(HALL, *ONES), Units(HALL, (0,), (1,)), Plan(HALL, (0, 0, 0, 0))):
            before = fields_of(one).copy()
            for call in (one, one.told, one.numbers, one.borne):
                check_refused(self, call, (), {"silent": ()}, {"silent": NO_LOTS})
            self.assertEqual(fields_of(one), before)

    def test_by_name(self):
        one = Plan(HALL, *ONES)
        self.assertEqual([one(silent=(3,)), one.told(silent=(0, 1, 2)), one.borne(silent=())], [True, 0, 1])
        self.assertEqual(one.numbers(silent=()), read_numbers(HALL, ONES, ((),) * 3))


class OfUnits(unittest.TestCase):
    def test_marks_are_1_on_the_lots(self):
        for hall, chance in some_halls(254):
            size = hall[0][1]
            lots = tuple(some_lot(chance, size) for _ in range(chance.randint(1, 8)))
            one = Units(hall, *lots)
            self.assertEqual(shown(one.lots_now), shown(lots))
            self.assertEqual(shown(one.marks_now), shown(tuple(tuple(int(place in lot) for place in range(size)) for lot in lots)))
            self.assertEqual(one.marks_now, unit_marks(size, lots))
            self.assertEqual([one.hall_now, len(one), list(one), one[0]], [hall, len(lots), list(one.marks_now), one.marks_now[0]])

    def test_units_is_a_plan(self):
        self.assertTrue(issubclass(Units, Plan))
        one = Units(HALL, (), (0, 1, 2, 3), ())
        self.assertEqual(one.marks_now, ((0,) * 4, (1,) * 4, (0,) * 4))
        self.assertEqual([(0, 0, 0, 0) in one, (1, 0, 0, 0) in one], [True, False])
        for lot in lots_below(4):
            self.assertIs(Units(HALL, *[(shelf,) for shelf in lot])(()) if lot else False, len(lot) >= 2)

    def test_lots_that_are_none(self):
        for wrong in NO_LOTS:
            self.assertEqual(raised(Units, HALL, wrong), refused_at("lots", 0))
            self.assertEqual(raised(Units, HALL, (0,), (1,), wrong, None), refused_at("lots", 2))
        self.assertEqual(raised(Units, HALL), not_usable("lots"))
        self.assertEqual(raised(Units, HALL, ((0,), (1,))), refused_at("lots", 0))


class Derived(Plan):
    """A class derived from Plan."""


if __name__ == "__main__":
    unittest.main()
