"""[87], [88]: rows that are written anew, and drafts."""

import unittest

from starshelves.drafts import Draft
from starshelves.stocks import shelf_of, slots_of
from starshelves.sums import total_of
from starshelves.writes import changed, least_touch, partly, touched
from tests.helper import (
    HALL, HIDE, KEEP, LONG, NO_LOTS, NO_SHELVES, NO_STOCKS, NO_WORDS, ODD, PRIMES, STOCK, check_refused, fields_of, not_usable, point_halls,
    raised, shown, small_halls, some_halls, some_lot, some_slot, some_stock, some_word_in, tiny_halls, words_by_hand,
)

NO_SLOTS = (
    *[thing for thing in ODD if thing != (-1, 0)], (-1, 0), 5, (), (0,), (0, 0, 0), [0, 0], (2, 0), (0, 1), (1, 1), (0, -1), (True, 0), (0, False), (0, None),
    "00", (0, (0,)), ((0, 0),), (LONG, 0), (0, LONG),
)
NO_KEPT = (*NO_WORDS, (1, 0, 0, 0), (1, 2, 3, 0), (1, 1, 0, 0), (1, 2, 3, 5))
# Stocks of the hall, but of another shape than that of the examples.
OTHERS = (STOCK[:1], (*STOCK, STOCK[0]), ((STOCK[0][0], STOCK[1][0]),), (STOCK[0], STOCK[1] * 2), (STOCK[0] * 2, STOCK[1]))
REFUSED = {"stock": NO_STOCKS, "slot": NO_SLOTS, "word": NO_KEPT, "lot": NO_LOTS, "other": (*NO_STOCKS, *OTHERS)}


def written(stock, slot, word):
    """The stock with this word at the slot, by hand."""
    return tuple(tuple(word if (at, k) == slot else row for k, row in enumerate(file)) for at, file in enumerate(stock))


def drawn(seed, many=4):
    """Halls, each with a stock, a slot, a word of keep and a source of chances."""
    for hall, chance in some_halls(seed, many):
        stock = some_stock(chance, hall)
        yield hall, stock, some_slot(chance, stock), some_word_in(chance, hall[0]), chance


class Writes(unittest.TestCase):
    """[87]."""

    def test_changed(self):
        for hall, stock, slot, word, _ in drawn(381):
            before = shown(stock)
            self.assertEqual(shown(changed(hall, stock, slot, word)), shown(written(stock, slot, word)))
            self.assertEqual(changed(hall, stock, slot, stock[slot[0]][slot[1]]), stock)
            self.assertEqual(shown(stock), before)

    def test_touched(self):
        for hall, stock, slot, word, chance in drawn(382):
            other = written(stock, slot, word)
            for _ in range(chance.randint(0, 2)):
                other = written(other, some_slot(chance, stock), some_word_in(chance, hall[0]))
            told = tuple(shelf for shelf in range(hall[0][1]) if shelf_of(hall, stock, shelf) != shelf_of(hall, other, shelf))
            self.assertEqual(shown(touched(hall, stock, other)), shown(told))
            self.assertEqual(touched(hall, other, stock), told)
            self.assertEqual(touched(hall, stock, stock), ())

    def test_a_write_touches_no_fewer_shelves_than_least_touch(self):
        for hall, stock, slot, word, _ in drawn(383):
            shelves = touched(hall, stock, changed(hall, stock, slot, word))
            if word == stock[slot[0]][slot[1]]:
                self.assertEqual(shelves, ())
            else:
                self.assertGreaterEqual(len(shelves), len([digit for digit in least_touch(hall) if digit]))

    def test_partly(self):
        for hall, stock, slot, word, chance in drawn(384):
            size, former = hall[0][1], stock[slot[0]][slot[1]]
            for lot in ((), tuple(range(size)), some_lot(chance, size), some_lot(chance, size)):
                told = tuple(word[shelf] if shelf in lot else former[shelf] for shelf in range(size))
                self.assertEqual(shown(partly(hall, stock, slot, word, lot)), shown(told))
            self.assertEqual([partly(hall, stock, slot, word, ()), partly(hall, stock, slot, word, tuple(range(size)))], [former, word])

    def test_least_touch_by_going_through_all_words(self):
        for hall, _ in [*tiny_halls(385), *small_halls(386), *small_halls(387)]:
            words = [word for word in words_by_hand(hall[0]) if any(word)]
            self.assertEqual(shown(least_touch(hall)), shown(min(words, key=lambda word: (sum(map(bool, word)), word))))

    def test_least_touch_of_halls_of_points(self):
        for hall, _, _ in point_halls(388, (7, 11)):
            size, rank = hall[0][1], len(hall[0][2])
            told = least_touch(hall)
            self.assertEqual(len([digit for digit in told if digit]), size - rank + 1)
            self.assertEqual(told, hall[0][2][-1])

    def test_a_stock_of_one_slot_and_a_file_of_several_rows(self):
        one, several = (((1, 2, 3, 4),),), (((1, 2, 3, 4), (2, 2, 2, 2), (0, 0, 0, 0)),)
        self.assertEqual(changed(HALL, one, (0, 0), (0, 0, 0, 0)), (((0, 0, 0, 0),),))
        self.assertEqual(changed(HALL, several, (0, 1), (1, 1, 1, 1)), (((1, 2, 3, 4), (1, 1, 1, 1), (0, 0, 0, 0)),))
        self.assertEqual(touched(HALL, several, changed(HALL, several, (0, 2), (0, 1, 2, 3))), (1, 2, 3))
        for prime in PRIMES:
            hall = ((prime, 1, ((1,),)), (prime, 1, ()))
            self.assertEqual([least_touch(hall), touched(hall, (((0,),),), (((1,),),))], [(1,), (0,)])

    def test_wrong_values(self):
        given = {"stock": STOCK, "slot": (1, 0), "word": (0, 1, 2, 3)}
        check_refused(self, changed, (HALL,), given, REFUSED)
        check_refused(self, partly, (HALL,), {**given, "lot": (0, 1)}, REFUSED)
        check_refused(self, touched, (HALL,), {"stock": STOCK, "other": (STOCK[1], STOCK[0])}, REFUSED)


class Drafts(unittest.TestCase):
    """[88]."""

    def check(self, one, hall, stock, slots):
        """All that a Draft tells, by this stock and these writes."""
        self.assertEqual(shown([one.hall_now, one.stock_now, len(one), list(one)]), shown([hall, stock, len(slots), slots]))
        self.assertEqual(shown([one[slot] for slot in slots_of(hall, stock)]), shown([row for file in stock for row in file]))
        for shelf in range(hall[0][1]):
            self.assertEqual(shown(one(shelf)), shown(tuple(row[shelf] for file in stock for row in file)))

    def test_writes_and_steps_back(self):
        for hall, stock, _, _, chance in drawn(391):
            one, states, slots = Draft(hall, stock), [stock], []
            before = shown(stock)
            for _ in range(15):
                if chance.random() < 0.6:
                    slot = some_slot(chance, stock)
                    word = states[-1][slot[0]][slot[1]] if chance.random() < 0.2 else some_word_in(chance, hall[0])
                    one[slot] = word
                    states.append(written(states[-1], slot, word))
                    slots.append(slot)
                elif slots:
                    self.assertEqual(shown(one.back()), shown(slots.pop()))
                    states.pop()
                else:
                    self.assertEqual(raised(one.back), ("NothingToUndo", {"steps": 0}))
                self.check(one, hall, states[-1], slots)
            while slots:
                self.assertEqual(one.back(), slots.pop())
            self.check(one, hall, stock, [])
            self.assertTrue(one == Draft(hall, stock))
            self.assertEqual(shown(stock), before)

    def test_a_write_of_the_word_that_was_there_counts(self):
        one = Draft(HALL, STOCK)
        one[(0, 0)] = STOCK[0][0]
        self.assertEqual([len(one), list(one), one.stock_now, one == Draft(HALL, STOCK)], [1, [(0, 0)], STOCK, True])
        self.assertEqual([one.back(), len(one)], [(0, 0), 0])

    def test_back_at_the_beginning(self):
        one = Draft(HALL, STOCK)
        for _ in range(2):
            self.assertEqual(raised(one.back), ("NothingToUndo", {"steps": 0}))
        one[(1, 0)] = (0, 1, 2, 3)
        self.assertEqual(one.back(), (1, 0))
        self.assertEqual(raised(one.back), ("NothingToUndo", {"steps": 0}))
        self.check(one, HALL, STOCK, [])

    def test_rows_that_are_in_it(self):
        for hall, stock, slot, word, chance in drawn(392):
            one = Draft(hall, stock)
            one[slot] = word
            rows = [row for file in one.stock_now for row in file]
            for thing in (*rows, some_word_in(chance, hall[0]), (0,) * hall[0][1]):
                self.assertIs(thing in one, thing in rows)
        one = Draft(HALL, (((1, 1, 1, 1), (0, 0, 0, 0)),))
        for thing in (*NO_KEPT, (True, 1, 1, 1), (False, 0, 0, 0), [1, 1, 1, 1], one.stock_now, one.stock_now[0], one, HALL):
            self.assertIs(thing in one, False)

    def test_totals(self):
        for hall, stock, slot, word, chance in drawn(393):
            one = Draft(hall, stock)
            one[slot] = word
            weights = tuple(tuple(chance.randrange(hall[0][0]) for _ in file) for file in stock)
            self.assertEqual(shown(one.total(weights)), shown(total_of(hall, written(stock, slot, word), weights)))
            self.assertEqual(one.total(weights=weights), one.total(weights))

    def test_refused_calls_change_nothing(self):
        one = Draft(HALL, STOCK)
        one[(0, 0)] = (1, 1, 1, 1)
        before = shown(fields_of(one))
        for wrong in NO_SLOTS:
            self.assertEqual(raised(one.__getitem__, wrong), not_usable("slot"))
            for word in ((0, 1, 2, 3), None):
                self.assertEqual(raised(one.__setitem__, wrong, word), not_usable("slot"))
        for wrong in NO_KEPT:
            self.assertEqual(raised(one.__setitem__, (1, 0), wrong), not_usable("word"))
        for wrong in NO_SHELVES:
            self.assertEqual(raised(one, wrong), not_usable("shelf"))
        for wrong in (*ODD, ((1,),), ((1,), (5,)), ((1, 2),), 5, ((1,), (2,), (3,))):
            if wrong != ((1,), (0,)):
                self.assertEqual(raised(one.total, wrong), not_usable("weights"))
        self.assertEqual(shown(fields_of(one)), before)
        check_refused(self, Draft, (HALL,), {"stock": STOCK}, REFUSED)

    def test_properties_are_not_assigned(self):
        for name in ("hall_now", "stock_now"):
            with self.assertRaises(AttributeError):
                setattr(Draft(HALL, STOCK), name, STOCK)

    def test_equality(self):
        one, late = Draft(HALL, STOCK), Derived(HALL, changed(HALL, STOCK, (1, 0), (0, 1, 2, 3)))
        self.assertIs(one == Derived((KEEP, HIDE), STOCK), True)
        self.assertIs(Derived((KEEP, HIDE), STOCK) == one, True)
        self.assertIs(one == late, False)
        one[(1, 0)] = (0, 1, 2, 3)
        self.assertEqual([one == late, late == one, one != late, one == Draft(HALL, STOCK)], [True, True, False, False])
        for other in (STOCK, one.stock_now, (HALL, one.stock_now), None, 1, Draft((KEEP, KEEP), one.stock_now), HALL):
            self.assertEqual([one == other, other == one, one != other], [False, False, True])

    def test_drafts_of_one_stock_are_apart(self):
        one, other = Draft(HALL, STOCK), Draft(HALL, STOCK)
        one[(0, 0)] = (0, 0, 0, 0)
        self.check(other, HALL, STOCK, [])
        self.check(Draft(HALL, one.stock_now), HALL, (((0, 0, 0, 0),), STOCK[1]), [])


class Derived(Draft):
    """A class derived from Draft."""


if __name__ == "__main__":
    unittest.main()
