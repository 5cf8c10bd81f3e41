"""[48]: halls as objects."""

import unittest

from starshelves.bookclasses import Book
from starshelves.books import star_of
from starshelves.clearing import most_borne
from starshelves.hallclasses import Hall
from starshelves.mendchecker import lets_mend
from starshelves.mending import can_mend, distance_of, least_losses, mended, menders_of
from starshelves.mendpapers import mend_paper
from starshelves.stocks import shelves_of
from tests.helper import (
    HALL, HIDE, KEEP, NO_BOOKS, NO_LOTS, NO_SHELVES, ODD, STOCK, all_words, fields_of, invalid, lots_below, not_usable,
    raised, shown, some_book, some_halls, some_lot, some_stock, tiny_halls, words_by_hand,
)

LEVEL = ((5, 4, ()), (7, 4, ((1, 1, 1, 1),)), (5, 3, ((1, 1, 1),)))


class Made(unittest.TestCase):
    def test_properties(self):
        for hall, _ in some_halls(121):
            one = Hall(*hall)
            self.assertEqual(shown([one.keep_now, one.hide_now]), shown(list(hall)))
            self.assertEqual(shown(one.form_now), shown(hall))
            self.assertEqual(shown(one.star_now), shown(star_of(*hall)))
            self.assertEqual(shown(one.places_now), shown(hall[0][1]))
            self.assertEqual(len(one), len(hall[0][2]))

    def test_properties_are_not_assigned(self):
        one = Hall(KEEP, HIDE)
        for name in ("keep_now", "hide_now", "form_now", "star_now", "places_now"):
            with self.assertRaises(AttributeError):
                setattr(one, name, 1)
        self.assertEqual(one.form_now, HALL)

    def refused(self, keep, hide, word):
        self.assertEqual(raised(Hall, keep, hide), invalid(word))
        self.assertEqual(raised(Hall, hide=hide, keep=keep), invalid(word))
        self.assertEqual(raised(Hall.of, (keep, hide)), invalid(word))

    def test_errors_of_the_judge_of_halls(self):
        for keep in (*ODD, 5, (), KEEP[:2], [*KEEP], (5, 4, ()), Book(*KEEP[:2], *KEEP[2]), (5, 4, ((2, 0, 0, 0),))):
            for hide in (HIDE, None, (5, 3, ())):
                self.refused(keep, hide, "keep")
        for hide in [thing for thing in NO_BOOKS if thing not in ((7, 4, ()), (5, 3, ()), (5, 5, ()))]:
            self.refused(KEEP, hide, "hide")
        for hide in ((7, 4, ()), (5, 3, ()), (5, 5, ()), (7, 4, ((1, 1, 1, 1),))):
            self.refused(KEEP, hide, "like")

    def test_of(self):
        for hall, _ in some_halls(122):
            one = Hall.of(hall)
            self.assertIs(one.__class__, Hall)
            self.assertEqual(one.form_now, hall)
            self.assertIs(one == Hall(*hall), True)
            self.assertEqual(Hall.of(thing=hall).form_now, hall)
        for thing in (*[thing for thing in ODD if not (isinstance(thing, tuple) and len(thing) == 2)], 5, KEEP, list(HALL),
                      (KEEP,), (KEEP, HIDE, HIDE), Hall(KEEP, HIDE)):
            self.assertEqual(raised(Hall.of, thing), invalid("shape"))
        self.assertIsInstance(vars(Hall)["of"], classmethod)


class Asked(unittest.TestCase):
    def test_lots_that_can_be_lost_and_menders(self):
        for hall, _ in some_halls(123):
            one = Hall(*hall)
            for lot in lots_below(one.places_now)[::4]:
                self.assertIs(one(lot), can_mend(hall, lot))
                self.assertEqual(shown(one.borne(lot)), shown(most_borne(hall, lot)))
                self.assertEqual(shown(one.paper(lot)), shown(mend_paper(hall, lot)))
                self.assertIs(one.judged(lot, one.paper(lot)), can_mend(hall, lot))
            for shelf in range(one.places_now):
                self.assertEqual(shown(one[shelf]), shown(menders_of(hall, shelf)))
            self.assertEqual(shown(one.losses()), shown(least_losses(hall)))
            self.assertEqual(shown(one.distance()), shown(distance_of(hall)))
            self.assertEqual(one.form_now, hall)

    def test_words(self):
        for hall, _ in tiny_halls(124):
            one, words = Hall(*hall), words_by_hand(hall[0])
            for word in all_words(*hall[0][:2]):
                self.assertIs(word in one, word in words)
        one = Hall(KEEP, HIDE)
        for thing in (*ODD, 5, KEEP, HALL, [1, 1, 1, 1], (1, 1, 1), (1, 1, 1, 1, 1), (True, 1, 1, 1), (0, 0, 0, False), (1, 1, 1, 6),
                      ((1, 1, 1, 1),), "1 1 1 1", one):
            self.assertIs(thing in one, False)

    def test_mended_stocks(self):
        for hall, chance in some_halls(125):
            one, stock = Hall(*hall), some_stock(chance, hall)
            held = tuple(enumerate(shelves_of(hall, stock)))
            self.assertEqual(shown(one.mend(held)), shown(stock))
            some = tuple(held[shelf] for shelf in some_lot(chance, hall[0][1])) or held[:1]
            self.assertEqual(raised(one.mend, some), raised(mended, hall, some))

    def test_by_name(self):
        one = Hall(hide=HIDE, keep=KEEP)
        held = tuple(enumerate(shelves_of(HALL, STOCK)))
        self.assertEqual([one(lot=(0, 1)), one.borne(lot=()), one.mend(held=held)], [True, 1, STOCK])
        self.assertEqual(one.paper(lot=()), ("mends", ()))
        self.assertIs(one.judged(thing=("lost", (2, 1, 0, 4)), lot=(0, 1, 3)), False)

    def test_errors_of_the_functions(self):
        one = Hall(KEEP, HIDE)
        for lot in NO_LOTS:
            for call in (one, one.borne, one.paper):
                self.assertEqual(raised(call, lot), not_usable("lot"))
            self.assertEqual(raised(one.judged, lot, None), not_usable("lot"))
        for shelf in NO_SHELVES:
            self.assertEqual(raised(one.__getitem__, shelf), not_usable("shelf"))
        for held in (*ODD, (), ((0, ((5,),)),), Hall(KEEP, HIDE)):
            self.assertEqual(raised(one.mend, held), not_usable("held"))
        self.assertEqual(raised(one.mend, ((2, ((3,), (2,))),)), ("Lost", {"within": (1, 3, 0, 2)}))
        self.assertEqual(raised(one.mend, ((0, ((1,),)), (1, ((2,),)), (2, ((4,),)))), ("Torn", {"ways": ()}))
        for thing in (None, ("mends", ((1, 0, 2, 2), (1, 1, 0, 3))), ("mends", ()), ("lost", (1, 1, 1, 1)), ("lost", 5)):
            self.assertEqual(raised(one.judged, (0, 1), thing), raised(lets_mend, HALL, (0, 1), thing))
        self.assertEqual(one.form_now, HALL)

    def test_exchanged(self):
        for hall, _ in some_halls(126):
            one = Hall(*hall)
            if hall[1][2]:
                other = one.exchanged()
                self.assertIs(other.__class__, Hall)
                self.assertEqual(shown(other.form_now), shown(hall[::-1]))
                self.assertEqual(other.star_now, one.star_now)
                self.assertIs(other.exchanged() == one, True)
            else:
                self.assertEqual(raised(one.exchanged), not_usable("hide"))
        self.assertEqual(raised(Hall(KEEP, (5, 4, ())).exchanged), not_usable("hide"))

    def test_equality(self):
        one = Hall(KEEP, HIDE)
        self.assertIs(one == Hall(KEEP, HIDE), True)
        self.assertIs(one != Hall(KEEP, HIDE), False)
        self.assertIs(one == Derived(KEEP, HIDE), True)
        self.assertIs(Derived(KEEP, HIDE) == one, True)
        for other in (HALL, list(HALL), None, 1, "", Hall(HIDE, KEEP), Hall(KEEP, KEEP), Hall(KEEP, (5, 4, ())), Hall(HIDE, HIDE),
                      Hall((7, 4, ((1, 1, 1, 1),)), (7, 4, ())), Book(*KEEP[:2], *KEEP[2])):
            self.assertIs(one == other, False)
            self.assertIs(other == one, False)
            self.assertIs(one != other, True)
        for hall, chance in some_halls(127):
            other = (hall[0], some_book(chance, *hall[1][:2]))
            self.assertIs(Hall(*hall) == Hall(*other), hall == other)

    def test_a_refused_call_leaves_the_hall_as_it_was(self):
        one = Hall(KEEP, HIDE)
        before = fields_of(one).copy()
        for call, given in ((one, ((9,),)), (one.mend, (None,)), (one.judged, ((0,), None)), (one.__getitem__, (4,))):
            raised(call, *given)
        self.assertEqual(fields_of(one), before)


class Derived(Hall):
    """A class derived from Hall."""


if __name__ == "__main__":
    unittest.main()
