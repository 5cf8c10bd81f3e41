"""[79]: how few rounds are enough, as objects."""

import unittest

from starshelves.roundclasses import Rounds
from starshelves.rounds import least_rounds, most_told, rest_book, rounds_cut
from tests.helper import (
    HALL, HIDE, KEEP, LEFT, LONG, NO_NUMBERS, NO_SHELVES, ODD, REFUSED, check_refused, fields_of, great_left, is_free_by_rows, lots_below,
    not_usable, raised, shown, tiny_left,
)


class Made(unittest.TestCase):
    def test_properties_and_functions(self):
        for hall, silent, left, _ in [*tiny_left(311), *great_left(312, 1)]:
            one, book = Rounds(hall, silent, left), left or hall[0]
            self.assertEqual(shown([one.rest_now, one.left_now, one.least_now]), shown([rest_book(hall, silent), book, least_rounds(hall, silent, left)]))
            for many in (0, 1, 2, 3, 8, 9, LONG):
                self.assertEqual(shown(one[many]), shown(most_told(hall, silent, many, left)))
                self.assertEqual(shown(one(many)), shown(rounds_cut(hall, silent, many, left)))
            self.assertEqual(shown(len(one)), shown(len(book[2])))

    def test_iterated_over_it_gives_what_grows(self):
        for hall, silent, left, _ in [*tiny_left(313), *great_left(314)]:
            told, many = [], 1
            while most_told(hall, silent, many, left) > most_told(hall, silent, many - 1, left):
                told.append(most_told(hall, silent, many, left))
                many += 1
            one = Rounds(hall, silent, left)
            self.assertEqual(shown(list(one)), shown(told))
            self.assertEqual(list(one), list(one))
            if one.least_now is not None:
                self.assertEqual(len(told), one.least_now)
                self.assertEqual((told or [0])[-1], len(one))

    def test_refused(self):
        check_refused(self, Rounds, (HALL,), {"silent": (0,), "left": LEFT}, REFUSED)
        check_refused(self, Rounds, (HALL,), {"silent": (), "left": None}, REFUSED)
        one = Rounds(HALL, (0,), LEFT)
        before = shown(fields_of(one))
        for wrong in NO_NUMBERS:
            self.assertEqual(raised(one.__getitem__, wrong), not_usable("many"))
            self.assertEqual(raised(one, wrong), not_usable("many"))
        self.assertEqual(shown(fields_of(one)), before)

    def test_properties_are_not_assigned(self):
        for name in ("rest_now", "left_now", "least_now"):
            with self.assertRaises(AttributeError):
                setattr(Rounds(HALL, ()), name, 1)

    def test_left_is_keep_by_default(self):
        self.assertEqual([Rounds(HALL, (0,)).left_now, Rounds(HALL, (0,), None).left_now], [KEEP, KEEP])
        self.assertEqual([Rounds(HALL, (0,)).least_now, Rounds(HALL, (0,), LEFT).least_now, Rounds(HALL, (0, 1)).least_now], [2, 1, None])
        self.assertEqual([list(Rounds(HALL, (0,))), list(Rounds(HALL, (0, 1))), list(Rounds(HALL, (0,), (5, 4, ())))], [[1, 2], [], []])


class Shares(unittest.TestCase):
    """thing in one."""

    def test_all_tuples_of_lots_of_tiny_halls(self):
        for hall, silent, left, chance in tiny_left(315, 130):
            one, rest, book, lots = Rounds(hall, silent, left), rest_book(hall, silent), left or hall[0], lots_below(hall[0][1])
            for thing in [(), *[(lot,) for lot in lots], *[tuple(chance.choices(lots, k=chance.randint(2, 4))) for _ in range(30)]]:
                places = [place for lot in thing for place in lot]
                told = len(places) == len(set(places)) == len(book[2]) and all(is_free_by_rows(rest, lot) for lot in thing)
                told = told and is_free_by_rows(book, sorted(places))
                self.assertIs(thing in one, told, (hall, silent, left, thing))

    def test_shares_of_the_example(self):
        one = Rounds(HALL, (0,))
        for thing in (((1,), (2,)), ((2,), (1,)), ((3,), (), (2,)), ((), (1,), (3,), ())):
            self.assertIs(thing in one, True, thing)
        for thing in ((), ((),), ((1,),), ((1, 2),), ((1,), (2,), (3,)), ((0,), (1,)), ((1,), (1,)), ((1,), (4,)), [(1,), (2,)], ([1], (2,)),
                      ((True,), (2,)), ((2, 1),), ((1,), (2,), None), ((1,), (2,), 3), KEEP, one, None, 0, True, "", "1", *ODD):
            self.assertIs(thing in one, False, thing)

    def test_no_shares_at_all(self):
        known = Rounds(HALL, (0, 1, 2, 3), (5, 4, ()))
        for thing in ((), ((),), ((), ())):
            self.assertIs(thing in known, True)
            self.assertIs(thing in Rounds(HALL, ()), False)
        self.assertEqual([((0,),) in known, [] in known, None in known, False in known], [False] * 4)


class Silent(unittest.TestCase):
    """one + shelf, one - shelf."""

    def test_a_shelf_more_or_less(self):
        for hall, silent, left, chance in [*tiny_left(316), *great_left(317, 1)]:
            one = Rounds(hall, silent, left)
            before = shown(fields_of(one))
            for shelf in sorted({0, hall[0][1] - 1, chance.randrange(hall[0][1]), *silent[:1]}):
                if shelf in silent:
                    fewer = one - shelf
                    self.assertIs(fewer.__class__, Rounds)
                    self.assertTrue(fewer == Rounds(hall, tuple(other for other in silent if other != shelf), left))
                    self.assertEqual(raised(one.__add__, shelf), not_usable("shelf"))
                else:
                    more = one + shelf
                    self.assertIs(more.__class__, Rounds)
                    self.assertTrue(more == Rounds(hall, tuple(sorted((*silent, shelf))), left))
                    self.assertEqual(more.least_now, least_rounds(hall, tuple(sorted((*silent, shelf))), left))
                    self.assertTrue(more - shelf == one)
                    self.assertEqual(raised(one.__sub__, shelf), not_usable("shelf"))
            self.assertEqual(shown(fields_of(one)), before)

    def test_left_stays_as_it_was(self):
        one = Rounds(HALL, (0,), LEFT)
        self.assertEqual([(one + 1).left_now, (one - 0).left_now, (Derived(HALL, (0,), LEFT) + 3).left_now], [LEFT, LEFT, LEFT])
        self.assertEqual([(one + 1).rest_now, (one - 0).rest_now], [rest_book(HALL, (0, 1)), rest_book(HALL, ())])

    def test_what_is_no_shelf(self):
        one = Rounds(HALL, (0, 1))
        for wrong in (*NO_SHELVES, *ODD, one, (0,)):
            self.assertEqual(raised(one.__add__, wrong), not_usable("shelf"))
            self.assertEqual(raised(one.__sub__, wrong), not_usable("shelf"))
        self.assertEqual(raised(lambda: one + True), not_usable("shelf"))
        self.assertEqual(raised(lambda: one - True), not_usable("shelf"))


class Equal(unittest.TestCase):
    def test_equality(self):
        one = Rounds(HALL, (0,), LEFT)
        for same in (Rounds(HALL, (0,), LEFT), Derived(HALL, (0,), LEFT), Rounds((KEEP, HIDE), (0, 1), LEFT) - 1):
            self.assertIs(one == same, True)
            self.assertIs(same == one, True)
            self.assertIs(one != same, False)
        for other in (Rounds(HALL, (1,), LEFT), Rounds(HALL, (0,)), Rounds(HALL, (), LEFT), Rounds((KEEP, (5, 4, ())), (0,), LEFT), HALL, None,
                      (HALL, (0,), LEFT), 1, "one"):
            self.assertIs(one == other, False)
            self.assertIs(other == one, False)
            self.assertIs(one != other, True)
        self.assertIs(Rounds(HALL, ()) == Rounds(HALL, (), KEEP), True)


class Derived(Rounds):
    """A class derived from Rounds."""


if __name__ == "__main__":
    unittest.main()
