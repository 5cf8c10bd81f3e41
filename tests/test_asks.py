"""[58], [59], and [60] as far as it speaks of these: plans seen, and asks as objects."""

import itertools
import unittest

from starshelves.asking import answers_of, letters_of
from starshelves.asks import Ask, Plain
from starshelves.covering import plain_covers
from starshelves.hidden import hidden_marks
from starshelves.plansseen import plan_learns, twice_seen
from starshelves.seeing import learns
from tests.helper import (
    HALL, HIDE, KEEP, NO_BOOKS, NO_LOTS, NO_PLANS, NO_SHELVES, NO_STOCKS, NO_WORDS, ODD, PRIMES, STOCK, check_refused,
    fields_of, lots_below, not_usable, raised, rank_of_rows, shown, some_halls, some_lot, some_plan, some_word, some_word_in,
    tiny_halls, words_by_hand,
)
from tests.test_asking import ASK, COVERS, NO_ASKS, NO_COVERS, NO_LETTERS, letters_by_hand, some_asks

NO_HALLS = (*ODD, 5, (), KEEP, list(HALL), (KEEP,), (KEEP, HIDE, HIDE), ((5, 4, ()), HIDE), *[(KEEP, book) for book in NO_BOOKS])


class PlansSeen(unittest.TestCase):
    """[58]."""

    def test_a_plan_is_learned_of_by_some_mark(self):
        for hall, chance in some_halls(181, 4):
            plan = some_plan(chance, hall, 8)
            for lot in lots_below(hall[0][1])[::3]:
                self.assertIs(plan_learns(hall, plan, lot), any(learns(hall, mark, lot) for mark in plan))

    def test_each_round_counts(self):
        level, mark = (2, 2, 2, 2), (1, 1, 0, 0)
        for plan, told in (((level,), False), ((level, mark), True), ((mark, level), True), ((level, mark, level), True),
                           ((level,) * 8, False), ((level,) * 7 + (mark,), True)):
            self.assertIs(plan_learns(HALL, plan, (0, 2)), told)
            self.assertIs(plan_learns(HALL, plan, (0, 1)), False)
            self.assertIs(plan_learns(HALL, plan, ()), False)

    def pairs_of_letters(self, hall, stock, slot, marks, lot):
        """All pairs of letters that the lot gets in two rounds with the same covers."""
        words, found = sorted(words_by_hand(hall[1])), set()
        for one, other in itertools.product(words, repeat=2):
            rounds = [letters_of(hall, stock, (slot, mark), ((one,), (other,))) for mark in marks]
            found.add(tuple(letters[shelf] for letters in rounds for shelf in lot))
        return found

    def test_slots_told_by_two_rounds_with_the_same_covers(self):
        for hall, chance in tiny_halls(182, 13, 1):
            stock = ((hall[0][2][0],),) * 2
            one, other = some_word(chance, *hall[0][:2]), some_word(chance, *hall[0][:2])
            for marks in ((one, other), (one, one), (some_word_in(chance, hall[1]), one), (one, some_word_in(chance, hall[1]))):
                for lot in lots_below(hall[0][1]):
                    left, right = [self.pairs_of_letters(hall, stock, (at, 0), marks, lot) for at in (0, 1)]
                    self.assertIs(twice_seen(hall, *marks, lot), not left & right)

    def test_marks_that_differ_at_a_place_of_the_lot(self):
        for hall, chance in some_halls(183, 4):
            one, other = some_word(chance, *hall[0][:2]), some_word(chance, *hall[0][:2])
            for lot in lots_below(hall[0][1])[::3]:
                for left, right in ((one, other), (one, one), (some_word_in(chance, hall[1]), some_word_in(chance, hall[1]))):
                    told = learns(hall, left, lot) or learns(hall, right, lot) or any(left[place] != right[place] for place in lot)
                    self.assertIs(twice_seen(hall, left, right, lot), told)

    def test_the_second_mark_alone_learned_of(self):
        # They are the same on the lot whenever just one of them could be learned of.
        for lot in lots_below(4):
            for one, other in itertools.permutations(((1, 1, 0, 0), (2, 2, 2, 2), (1, 1, 1, 1)), 2):
                differ = any(one[place] != other[place] for place in lot)
                self.assertIs(twice_seen(HALL, one, other, lot), differ or learns(HALL, one, lot))

    def test_wrong_values(self):
        odd = {"plan": NO_PLANS, "lot": NO_LOTS, "one": NO_WORDS, "other": NO_WORDS}
        check_refused(self, plan_learns, (HALL,), {"plan": ((1, 1, 0, 0), (0, 0, 1, 1)), "lot": (0, 1)}, odd)
        check_refused(self, twice_seen, (HALL,), {"one": (1, 1, 0, 0), "other": (2, 2, 0, 0), "lot": (2, 3)}, odd)

    def test_marks_out_of_those_hidden_from_the_lot_alone(self):
        for hall, chance in some_halls(184, 4):
            plan, lot = some_plan(chance, hall, 4), some_lot(chance, hall[0][1])
            rows = hidden_marks(hall, (lot,))[2]
            outside = any(rank_of_rows(hall[0][0], [*rows, mark]) > len(rows) for mark in plan)
            self.assertIs(plan_learns(hall, plan, lot), outside)


class Asks(unittest.TestCase):
    """[59]."""

    def test_properties_letters_and_answers(self):
        for hall, stock, ask, covers, _ in some_asks(185, 4):
            it, size = Ask(hall, stock, ask, covers), hall[0][1]
            self.assertEqual(shown([it.hall_now, it.stock_now, it.ask_now, it.covers_now]), shown([hall, stock, ask, covers]))
            letters = letters_by_hand(hall, ask, covers)
            self.assertEqual(shown([it[shelf] for shelf in range(size)]), shown(list(letters)))
            self.assertEqual(shown(list(it)), shown(list(letters)))
            answers = answers_of(hall, stock, ask, covers, tuple(range(size)))
            self.assertEqual(shown([it(shelf) for shelf in range(size)]), shown([digit for _, digit in answers]))
            self.assertEqual(shown(str(it)), shown(" ".join(str(digit) for _, digit in answers)))
            self.assertEqual(len(it), size)

    def test_lots(self):
        for hall, stock, ask, covers, _ in some_asks(186, 4):
            it, letters = Ask(hall, stock, ask, covers), letters_by_hand(hall, ask, covers)
            for lot in lots_below(hall[0][1])[::4]:
                self.assertEqual(shown(it.answers(lot)), shown(answers_of(hall, stock, ask, covers, lot)))
                self.assertIs(it.learned_by(lot), learns(hall, ask[1], lot))
                self.assertEqual(shown(it.seen_by(lot)), shown(tuple(letters[shelf] for shelf in lot)))
            self.assertEqual([it.answers(()), it.seen_by(()), it.learned_by(())], [(), (), False])

    def test_properties_are_not_assigned(self):
        it = Ask(HALL, STOCK, ASK, COVERS)
        for name in ("hall_now", "stock_now", "ask_now", "covers_now"):
            with self.assertRaises(AttributeError):
                setattr(it, name, 1)

    def test_letters_that_are_in_it(self):
        it = Ask(HALL, STOCK, ASK, COVERS)
        told = [letter for letter in ((((a,), (b,))) for a in range(5) for b in range(5)) if letter in it]
        self.assertEqual(told, [((3,), (0,)), ((3,), (4,))])
        for thing in (*NO_LETTERS, ((3,), (False,)), [(3,), (0,)], ((3,), [0]), ((3,),), ((3,), (0,), (0,)), it):
            self.assertIs(thing in it, False)
        plain = Plain(HALL, (STOCK[0],), ((0, 0), (1, 1, 0, 0)))
        self.assertEqual([((1,),) in plain, ((0,),) in plain, ((True,),) in plain, ((False,),) in plain, ((2,),) in plain],
                         [True, True, False, False, False])

    def test_shelves_and_lots_that_are_none(self):
        it = Ask(HALL, STOCK, ASK, COVERS)
        before = fields_of(it).copy()
        for shelf in NO_SHELVES:
            self.assertEqual(raised(it.__getitem__, shelf), not_usable("shelf"))
            self.assertEqual(raised(it, shelf), not_usable("shelf"))
        for call in (it.answers, it.learned_by, it.seen_by):
            check_refused(self, call, (), {"lot": (0, 2)}, {"lot": NO_LOTS})
        self.assertEqual(fields_of(it), before)

    def test_wrong_values(self):
        odd = {"hall": NO_HALLS, "stock": NO_STOCKS, "ask": NO_ASKS, "covers": NO_COVERS}
        check_refused(self, Ask, (), {"hall": HALL, "stock": STOCK, "ask": ASK, "covers": COVERS}, odd)
        check_refused(self, Plain, (), {"hall": HALL, "stock": STOCK, "ask": ASK}, odd)
        self.assertEqual(raised(Plain, None, None, None), not_usable("hall"))

    def test_by_name(self):
        it = Ask(covers=COVERS, ask=ASK, stock=STOCK, hall=HALL)
        self.assertEqual([it(shelf=2), it.answers(lot=(0,)), it.learned_by(lot=(0, 2)), it.seen_by(lot=(2,))],
                         [2, ((0, 3),), True, (((3,), (4,)),)])
        self.assertEqual(str(Plain(ask=ASK, hall=HALL, stock=STOCK)), "2 2 0 0")

    def test_plain_is_an_ask_with_plain_covers(self):
        self.assertTrue(issubclass(Plain, Ask))
        for hall, stock, ask, covers, _ in some_asks(187):
            it, other = Plain(hall, stock, ask), Ask(hall, stock, ask, plain_covers(hall, stock))
            self.assertEqual(shown(it.covers_now), shown(plain_covers(hall, stock)))
            self.assertIs(it == other, True)
            self.assertIs(other == it, True)
            self.assertEqual(str(it), str(other))
            self.assertIs(it == Ask(hall, stock, ask, covers), covers == plain_covers(hall, stock))

    def test_equality(self):
        it = Ask(HALL, STOCK, ASK, COVERS)
        self.assertIs(it == Ask(HALL, STOCK, ASK, COVERS), True)
        self.assertIs(it != Ask(HALL, STOCK, ASK, COVERS), False)
        self.assertIs(it == Derived(HALL, STOCK, ASK, COVERS), True)
        self.assertIs(Derived(HALL, STOCK, ASK, COVERS) == it, True)
        others = [
            Ask((KEEP, KEEP), STOCK, ASK, COVERS), Ask(HALL, STOCK[::-1], ASK, COVERS), Ask(HALL, STOCK, ((0, 0), ASK[1]), COVERS),
            Ask(HALL, STOCK, (ASK[0], (1, 0, 0, 0)), COVERS), Ask(HALL, STOCK, ASK, COVERS[::-1]), Plain(HALL, STOCK, ASK),
            (HALL, STOCK, ASK, COVERS), list(it), str(it), None, 1,
        ]
        for other in others:
            self.assertIs(it == other, False)
            self.assertIs(other == it, False)
            self.assertIs(it != other, True)

    def test_one_shelf_one_slot_all_primes(self):
        for prime in PRIMES:
            hall = ((prime, 1, ((1,),)), (prime, 1, ((1,),)))
            it = Ask(hall, (((prime - 1,),),), ((0, 0), (1,)), (((prime - 1,),),))
            self.assertEqual([it[0], it(0), str(it), len(it)], [((0,),), 0, "0", 1])


class Derived(Ask):
    """A class derived from Ask."""


if __name__ == "__main__":
    unittest.main()
