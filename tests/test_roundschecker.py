"""[78]: papers on how few rounds are enough, and their judge."""

import unittest

from starshelves.reading import reads, told_rank
from starshelves.rounds import cut_ratio, least_rounds, rest_book, unit_marks
from starshelves.roundschecker import lets_rounds
from starshelves.roundspapers import rounds_paper
from tests.helper import (
    DEEP, HALL, LEFT, LONG, NO_LOTS, ODD, REFUSED, check_refused, great_left, invalid, is_free_by_rows, not_usable, raised, shown, some_lot,
    tiny_left,
)

KNOWN = (5, 4, ())
CUT = (0, 1, 2, 3)


def judged_by_hand(hall, silent, thing, left):
    """What the judge ought to do with any value: the error's fields, or the number in a tuple of one."""
    size, book, rest = hall[0][1], left or hall[0], rest_book(hall, silent)
    is_tuple = isinstance(thing, tuple)
    if is_tuple and len(thing) == 1 and thing[0] == "known":
        return ("left", -1) if book[2] else (0,)
    if is_tuple and len(thing) == 3 and thing[0] == "rounds" and isinstance(thing[1], tuple) and thing[1]:
        return shares_by_hand(hall, silent, thing[1], left, book, rest) or cut_by_hand(hall, silent, thing, left, len(thing[1]))
    if is_tuple and len(thing) == 2 and thing[0] == "never":
        if not is_lot_by_hand(size, thing[1]):
            return ("cut", -1)
        first, second = cut_ratio(hall, silent, thing[1], left)
        return (None,) if first > 0 and second == 0 else ("value", -1)
    return ("shape", -1)


def is_lot_by_hand(size, thing):
    if not isinstance(thing, tuple) or not all(place.__class__ is int and 0 <= place < size for place in thing):
        return False
    return list(thing) == sorted(set(thing))


def shares_by_hand(hall, silent, lots, left, book, rest):
    """The fields of the error for the first lot that is none, or for all together; None if they are shares."""
    places = []
    for k, lot in enumerate(lots):
        if not is_lot_by_hand(hall[0][1], lot):
            return ("lot", k)
        if set(lot) & set(places):
            return ("shared", k)
        if not is_free_by_rows(rest, lot):
            return ("free", k)
        places.extend(lot)
    if len(places) < len(book[2]):
        return ("few", -1)
    return None if is_free_by_rows(book, sorted(places)) else ("told", -1)


def cut_by_hand(hall, silent, thing, left, many):
    if not is_lot_by_hand(hall[0][1], thing[2]):
        return ("cut", -1)
    first, second = cut_ratio(hall, silent, thing[2], left)
    return (many,) if first > second * (many - 1) else ("value", -1)


def told_of(hall, silent, thing, left):
    """What the judge does, in the same form."""
    name, fields = raised(lets_rounds, hall, silent, thing, left)
    return (fields["word"], fields["at"]) if name == "InvalidPaper" else (fields,)


class Papers(unittest.TestCase):
    def test_papers_are_accepted_and_tell_least_rounds(self):
        seen = set()
        for hall, silent, left, _ in [*tiny_left(301, 130, 3), *great_left(302)]:
            paper = rounds_paper(hall, silent, left)
            before = shown((hall, silent, left, paper))
            told = lets_rounds(hall, silent, paper, left)
            self.assertEqual(shown(told), shown(least_rounds(hall, silent, left)))
            self.assertIsInstance(paper, tuple)
            self.assertEqual(paper[0], {None: "never", 0: "known"}.get(told, "rounds"))
            self.assertEqual(len(paper), {"never": 2, "known": 1, "rounds": 3}[paper[0]])
            if told:
                self.assertEqual(len(paper[1]), told)
            self.assertEqual(judged_by_hand(hall, silent, paper, left), (told,))
            self.assertEqual(shown((hall, silent, left, paper)), before)
            seen.add(told)
        self.assertLessEqual({None, 0, 1, 2, 3, 4}, seen)

    def test_left_without_rows_and_all_shelves_silent(self):
        for hall, _, _, _ in great_left(303, 2):
            size = hall[0][1]
            for silent in ((), (0,), tuple(range(size))):
                known = (*hall[0][:2], ())
                self.assertEqual(rounds_paper(hall, silent, known), ("known",))
                self.assertEqual(shown(lets_rounds(hall, silent, ("known",), known)), "0")
            paper = rounds_paper(hall, tuple(range(size)))
            self.assertEqual(paper[0], "never")
            self.assertIsNone(lets_rounds(hall, tuple(range(size)), paper))

    def test_what_an_accepted_paper_states_is_true(self):
        for hall, silent, _, _ in great_left(304, 4):
            paper = rounds_paper(hall, silent)
            if paper[0] == "rounds":
                plan = unit_marks(hall[0][1], paper[1])
                self.assertIs(reads(hall, plan, (silent,) * len(plan)), True)
                for many in range(1, len(plan)):
                    self.assertLess(told_rank(hall, plan[:many], (silent,) * many), len(hall[0][2]))

    def test_left_is_none_by_default(self):
        self.assertEqual([rounds_paper(HALL, (0, 1))[0], rounds_paper(HALL, (0,))[0]], ["never", "rounds"])
        self.assertEqual(lets_rounds(HALL, (0,), rounds_paper(HALL, (0,), LEFT), LEFT), 1)
        self.assertEqual(lets_rounds(left=KNOWN, thing=("known",), silent=(), hall=HALL), 0)

    def test_wrong_values(self):
        check_refused(self, rounds_paper, (HALL,), {"silent": (0,), "left": LEFT}, REFUSED)
        check_refused(self, rounds_paper, (HALL,), {"silent": (0, 1), "left": None}, REFUSED)
        check_refused(self, lets_rounds, (HALL,), {"silent": (0,), "thing": ("known",), "left": KNOWN}, REFUSED)
        # The thing is judged behind left.
        check_refused(self, lets_rounds, (HALL,), {"silent": (0,), "thing": None, "left": LEFT}, REFUSED)
        self.assertEqual(raised(lets_rounds, HALL, (0,), ("known",), (5, 4, ((1, 0, 0, 0),))), not_usable("left"))


class Judged(unittest.TestCase):
    """Each word of the list, with its place."""

    def test_shapes(self):
        for thing in (*ODD, DEEP, 0, 5, LONG, (), "known", "never", ["known"], ("known", ()), ("know",), ("Known",), (None,),
                      ("rounds",), ("rounds", ((1,), (2,))), ("rounds", (), CUT), ("rounds", [(1,), (2,)], CUT), ("rounds", None, CUT),
                      ("rounds", ((1,), (2,)), CUT, 1), ["rounds", ((1,), (2,)), CUT], ("rounds", True, CUT), ("never",),
                      ("never", CUT, CUT), ["never", CUT], (("never",), CUT), (True, CUT), ("round", ((1,), (2,)), CUT)):
            self.assertEqual(raised(lets_rounds, HALL, (0,), thing), invalid("shape"), thing)
            self.assertEqual(raised(lets_rounds, HALL, (0,), thing, KNOWN), invalid("shape"), thing)

    def test_known(self):
        self.assertEqual(raised(lets_rounds, HALL, (0,), ("known",)), invalid("left"))
        self.assertEqual(raised(lets_rounds, HALL, (0,), ("known",), LEFT), invalid("left"))
        self.assertEqual(shown(lets_rounds(HALL, (0,), ("known",), KNOWN)), "0")

    def test_each_word_of_rounds(self):
        for lots, cut, told in (
            (((1,), (2,)), CUT, 2), (((2,), (1,)), CUT, 2), (((1,), (2,)), (1, 2, 3), invalid("value")), (((1,), (2,)), (), invalid("value")),
            (((1,), (2,), ()), CUT, invalid("value")), (((1,), (2,)), [0, 1, 2, 3], invalid("cut")), (((1,), (2,)), (0, 4), invalid("cut")),
            (((1,), (2,)), None, invalid("cut")), (((1,),), CUT, invalid("few")), (((1,), ()), None, invalid("few")),
            (((1,), (2,), (3,)), CUT, invalid("told")), (((1,), (2,), (3,)), None, invalid("told")), (((0,), (1,)), CUT, invalid("free", 0)),
            (((1,), (0,)), CUT, invalid("free", 1)), (((1,), (2, 3)), CUT, invalid("free", 1)), (((1,), (1,)), CUT, invalid("shared", 1)),
            (((1,), (), (0, 1)), CUT, invalid("shared", 2)), (((4,), (1,)), CUT, invalid("lot", 0)), (((1,), [2]), CUT, invalid("lot", 1)),
            (((1,), (2, 1)), CUT, invalid("lot", 1)), (((1,), (True,)), CUT, invalid("lot", 1)), ((None, (1,)), CUT, invalid("lot", 0)),
        ):
            found = raised(lets_rounds, HALL, (0,), ("rounds", lots, cut))
            self.assertEqual(found, told if isinstance(told, tuple) else ("no error but", told), (lots, cut))

    def test_all_checks_of_a_lot_come_before_those_of_the_next_one(self):
        for lots, told in ((((1, 2), None), invalid("free", 0)), (((1,), (0, 1), None), invalid("shared", 1)),
                           (((1,), (0,), None), invalid("free", 1)), (((0,), (0,)), invalid("free", 0)),
                           ((None, (0, 1)), invalid("lot", 0)), (((1,), (1, 2, 3), (9,)), invalid("shared", 1))):
            self.assertEqual(raised(lets_rounds, HALL, (0,), ("rounds", lots, None)), told)

    def test_each_word_of_never(self):
        self.assertIsNone(lets_rounds(HALL, (0, 1), ("never", CUT)))
        for silent, cut, told in (((0, 1), (), invalid("value")), ((0,), CUT, invalid("value")), ((0,), (), invalid("value")),
                                  ((0, 1), (0, 1), invalid("value")), ((), CUT, invalid("value"))):
            self.assertEqual(raised(lets_rounds, HALL, silent, ("never", cut)), told)
        for cut in (*NO_LOTS, [0, 1, 2, 3]):
            self.assertEqual(raised(lets_rounds, HALL, (0, 1), ("never", cut)), invalid("cut"))
            self.assertEqual(raised(lets_rounds, HALL, (0,), ("rounds", ((1,), (2,)), cut)), invalid("cut"))

    def test_spoilt_papers_against_a_judge_by_hand(self):
        seen = set()
        for hall, silent, left, chance in [*tiny_left(305, 130), *great_left(306, 2)]:
            size, paper, least = hall[0][1], rounds_paper(hall, silent, left), least_rounds(hall, silent, left)
            for _ in range(12):
                lots = list(paper[1]) if paper[0] == "rounds" else [some_lot(chance, size) for _ in range(chance.randint(1, 2))]
                for _ in range(chance.randint(0, 2)):
                    at = chance.randrange(len(lots))
                    lots[at:at + chance.randint(0, 1)] = [chance.choice([some_lot(chance, size), some_lot(chance, size)[:1], (size,), None, ()])]
                cut = chance.choice([paper[-1], paper[-1], some_lot(chance, size), None, tuple(range(size))])
                for thing in (("rounds", tuple(lots), cut), ("never", cut), ("known",)):
                    told = judged_by_hand(hall, silent, thing, left)
                    self.assertEqual(shown(told_of(hall, silent, thing, left)), shown(told), (hall, silent, thing, left))
                    seen.add(told[0])
                    if len(told) == 1:
                        self.assertEqual(told[0], least)
        self.assertLessEqual({"lot", "shared", "free", "few", "told", "cut", "value", "left", None, 0, 1, 2, 3}, seen)


if __name__ == "__main__":
    unittest.main()
