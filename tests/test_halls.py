"""[37] to [40]: halls, stocks, and what their shelves hold."""

import itertools
import unittest

from starshelves.hallchecker import lets_hall
from starshelves.stockkinds import is_file, is_hall, is_slot, is_stock
from starshelves.stocks import shelf_of, shelves_of, slots_of, stock_from
from tests.helper import (
    HALL, HIDE, KEEP, LONG, NO_SHELVES, NO_STOCKS, ODD, STOCK, all_words, invalid, not_usable, raised, shown, some_halls,
    some_stock, words_by_hand,
)

NO_BOOKS = (*ODD, 5, list(KEEP), KEEP[:2], (5, 4, ((2, 0, 0, 0),)), (4, 4, ()), (5, True, ()), (5, 4, [(1, 1, 1, 1)]))


class Judged(unittest.TestCase):
    def test_halls(self):
        for hall, _ in some_halls(71):
            self.assertIs(lets_hall(hall), True)
            self.assertIs(is_hall(hall), True)
        for hall in (HALL, (KEEP, (5, 4, ())), (KEEP, KEEP), ((2, 40, ((1,) * 40,)), (2, 40, ())), ((13, 1, ((1,),)),) * 2):
            self.assertIs(lets_hall(thing=hall), True)
            self.assertIs(is_hall(hall), True)

    def refused(self, thing, word):
        self.assertEqual(raised(lets_hall, thing), invalid(word))
        self.assertIs(is_hall(thing), False)

    def test_shape(self):
        for thing in (*[thing for thing in ODD if not (isinstance(thing, tuple) and len(thing) == 2)], 5, KEEP, list(HALL),
                      (KEEP,), (KEEP, HIDE, HIDE), ()):
            self.refused(thing, "shape")

    def test_keep_ahead_of_hide_ahead_of_like(self):
        for keep in (*NO_BOOKS, (5, 4, ()), (7, 3, ())):
            for hide in (HIDE, None, (5, 3, ())):
                self.refused((keep, hide), "keep")
        for hide in NO_BOOKS:
            self.refused((KEEP, hide), "hide")
        for hide in ((5, 3, ()), (7, 4, ()), (7, 3, ()), (3, 4, ((1, 1, 1, 1),)), (5, 5, ((1,) * 5,))):
            self.refused((KEEP, hide), "like")
        for thing in ((1, 2), (True, 1), (None, None)):
            self.refused(thing, "keep")


class Kinds(unittest.TestCase):
    def test_files_and_stocks_are_of_words_of_keep(self):
        for hall, chance in some_halls(72):
            for _ in range(3):
                stock = some_stock(chance, hall)
                self.assertIs(is_stock(hall, stock), True)
                for file in stock:
                    self.assertIs(is_file(hall, file), True)
                    self.assertIs(is_file(hall, [*file]), False)
        for word in all_words(5, 4)[::3]:
            self.assertIs(is_file(HALL, (word,)), word in words_by_hand(KEEP))
            self.assertIs(is_stock(HALL, (((0,) * 4, word),)), word in words_by_hand(KEEP))

    def test_limits_do_not_bind(self):
        file = ((1, 2, 3, 4),) * 9
        self.assertIs(is_file(HALL, file), True)
        self.assertIs(is_stock(HALL, (file,) * 9), True)

    def test_values_that_are_none(self):
        for thing in NO_STOCKS:
            self.assertIs(is_stock(HALL, thing), False)
            self.assertIs(is_file(HALL, thing), thing == ((1, 2, 3, 4),))
        for thing in (STOCK, ((1, 2, 3, 4), ()), ((1, 2, 3, 4), (1, 1, 1)), ((True, 1, 1, 1),), ((1, 1, 1, 6),), [(1, 1, 1, 1)]):
            self.assertIs(is_file(HALL, thing), False)

    def test_slots(self):
        stock = (STOCK[0] * 2, STOCK[1])
        told = [slot for slot in itertools.product(range(-2, 4), repeat=2) if is_slot(stock, slot)]
        self.assertEqual(told, [(0, 0), (0, 1), (1, 0)])
        for thing in (*[thing for thing in ODD if thing != (0, 0)], 0, (0,), (0, 0, 0), [0, 0], (False, 0), (0, False),
                      ("0", 0), (0, None), ((0,), 0), (LONG, 0), (0, LONG), (2, 0), (1, 1), (0, 2), (-1, 0), (0, -1)):
            self.assertIs(is_slot(stock, thing), False)


class Held(unittest.TestCase):
    def test_what_shelves_hold(self):
        for hall, chance in some_halls(73):
            stock, size = some_stock(chance, hall), hall[0][1]
            told = tuple(tuple(tuple(row[shelf] for row in file) for file in stock) for shelf in range(size))
            self.assertEqual(shown(shelves_of(hall, stock)), shown(told))
            self.assertEqual(shown(tuple(shelf_of(hall, stock, shelf) for shelf in range(size))), shown(told))
            slots = [(at, row) for at in range(len(stock)) for row in range(len(stock[at]))]
            self.assertEqual(shown(slots_of(hall, stock)), shown(tuple(slots)))
            self.assertEqual(sum(len(digits) for held in told for digits in held), size * len(slots))
            self.assertEqual(shown(stock_from(hall, told)), shown(stock))

    def test_stocks_and_shelves_that_are_none(self):
        for stock in NO_STOCKS:
            self.assertEqual(raised(shelf_of, HALL, stock, 0), not_usable("stock"))
            self.assertEqual(raised(shelf_of, HALL, stock, None), not_usable("stock"))
            self.assertEqual(raised(shelves_of, HALL, stock), not_usable("stock"))
            self.assertEqual(raised(slots_of, HALL, stock), not_usable("stock"))
        for shelf in NO_SHELVES:
            self.assertEqual(raised(shelf_of, HALL, STOCK, shelf), not_usable("shelf"))

    def test_held_values_that_are_none(self):
        held = shelves_of(HALL, STOCK)
        odd = (
            *ODD, 5, (), held[:3], held + held[:1], list(held), (*held[:3], list(held[3])), ((),) * 4, (((),),) * 4,
            (((1,), ()),) * 4, (*held[:3], ((4,),)), (*held[:3], ((4, 2),)), (*held[:3], ((4,), (2,), (1,))),
            (*held[:3], ((4,), [2])), (*held[:3], ((4,), (5,))), (*held[:3], ((4,), (True,))), (*held[:3], ((4,), (-1,))),
            (*held[:3], ((4,), 2)), (((4,), (2,)), *held[:2], None), ((4,),) * 4, (((2, 1), (1,)), *[((2,), (1, 1))] * 3),
        )
        for thing in odd:
            self.assertEqual(raised(stock_from, HALL, thing), not_usable("held"))

    def test_what_no_stock_holds(self):
        torn = ("Torn", {"ways": ()})
        self.assertEqual(raised(stock_from, HALL, (((1,),), ((2,),), ((3,),), ((0,),))), torn)
        self.assertEqual(raised(stock_from, HALL, (((1,), (1,)), ((2,), (1,)), ((3,), (1,)), ((4,), (0,)))), torn)
        for digits in all_words(5, 4)[::2]:
            held = tuple(((digit,),) for digit in digits)
            if digits in words_by_hand(KEEP):
                self.assertEqual(stock_from(HALL, held), ((digits,),))
            else:
                self.assertEqual(raised(stock_from, HALL, held), torn)

    def test_one_in_so_many_is_that_of_a_stock(self):
        for prime, size, rank, slots in ((2, 3, 2, 2), (2, 4, 2, 1), (3, 2, 1, 2), (3, 3, 2, 1), (5, 2, 1, 1), (2, 2, 2, 2)):
            rows = tuple(tuple(1 if k == place or (k == 0 and place == size - 1 and rank < size) else 0
                               for place in range(size)) for k in range(rank))
            hall, found = ((prime, size, rows), (prime, size, ())), 0
            for digits in itertools.product(all_words(prime, slots), repeat=size):
                found += raised(stock_from, hall, tuple((part,) for part in digits))[0] != "Torn"
            self.assertEqual(found * prime ** ((size - rank) * slots), prime ** (size * slots))

    def test_one_shelf_and_one_slot(self):
        hall = ((2, 1, ((1,),)), (2, 1, ()))
        self.assertEqual(shown(shelves_of(hall, (((1,),),))), "(((1,),),)")
        self.assertEqual(shown(stock_from(hall, (((1,),),))), "(((1,),),)")
        self.assertEqual(shown(slots_of(hall, (((0,),),))), "((0, 0),)")

    def test_arguments_behind_a_refused_call_are_as_they_were(self):
        held = [[[1]], [[2]]]
        raised(stock_from, HALL, held)
        self.assertEqual(held, [[[1]], [[2]]])


if __name__ == "__main__":
    unittest.main()
