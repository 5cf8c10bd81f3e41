"""[64]: the judge of papers on whether a plan reads."""

import itertools
import unittest

from starshelves.books import star_of
from starshelves.readchecker import lets_read
from starshelves.reading import read_numbers, reads
from tests.helper import (
    HALL, NO_PLANS, NO_WORDS, ODD, all_words, check_refused, dot, invalid, lies_within, lots_below, plus, raised,
    rank_of_rows, rest_of, some_plans, some_word, some_word_in, times_by_hand, words_by_hand,
)
from tests.test_reading import NO_SILENCES, unreadable

ONE, ONES = ((1, 1, 0, 0),), ((1, 0, 0, 0), (0, 1, 0, 0), (0, 0, 1, 0))
NONE = ((), (), ())
NUMBERS = (((1, 0, 2, 2),), ((0, 1, 3, 1),))
BLIND = ("blind", (1, 3, 0, 2), ((4, 2, 0, 3),))


def numbers_by_hand(hall, plan, silences, numbers):
    """What the list says of numbers: True, or what the judge raises."""
    (prime, size, rows), stars = hall[0], star_of(*hall)[2]
    if len(numbers) != len(rows):
        return invalid("rows")
    for k, words in enumerate(numbers):
        if not (isinstance(words, tuple) and len(words) == len(plan)):
            return invalid("row", k)
        if not all(isinstance(word, tuple) and word in all_words(prime, size) for word in words):
            return invalid("row", k)
        for i, word in enumerate(words):
            if not lies_within(word, rest_of(size, silences[i])):
                return invalid("silent", (k, i))
            if any(dot(prime, word, star) for star in stars):
                return invalid("star", (k, i))
        for j, row in enumerate(rows):
            told = sum(dot(prime, word, times_by_hand(prime, mark, row)) for word, mark in zip(words, plan)) % prime
            if told != int(j == k):
                return invalid("told", (k, j))
    return True


def blind_by_hand(hall, plan, silences, word, stars):
    """What the list says of a blind word: False, or what the judge raises."""
    prime, _, rows = hall[0]
    if not any(word) or rank_of_rows(prime, [*rows, word]) > len(rows):
        return invalid("word")
    if len(stars) != len(plan):
        return invalid("stars")
    book = star_of(*hall)[2]
    for i, star in enumerate(stars):
        if rank_of_rows(prime, [*book, star]) > len(book):
            return invalid("star", i)
        if not lies_within(plus(prime, star, times_by_hand(prime, word, plan[i])), silences[i]):
            return invalid("silent", i)
    return False


class Judged(unittest.TestCase):
    """Against the list, told by hand."""

    def check(self, hall, plan, silences, thing, told):
        if isinstance(told, bool):
            self.assertIs(lets_read(hall, plan, silences, thing), told)
            self.assertIs(reads(hall, plan, silences), told)
        else:
            self.assertEqual(raised(lets_read, hall, plan, silences, thing), told)

    def test_all_numbers_of_small_halls(self):
        halls = [((2, 2, ((1, 0), (0, 1))), (2, 2, ())), ((2, 2, ((1, 1),)), (2, 2, ())), ((2, 3, ((1, 0, 1),)), (2, 3, ((0, 1, 1),))),
                 ((3, 2, ((1, 1),)), (3, 2, ((1, 0),)))]
        for hall in halls:
            words = all_words(*hall[0][:2])
            for mark, lot in itertools.product(words, lots_below(hall[0][1])):
                for numbers in itertools.product(words, repeat=len(hall[0][2])):
                    numbers = tuple((word,) for word in numbers)
                    told = numbers_by_hand(hall, (mark,), (lot,), numbers)
                    self.check(hall, (mark,), (lot,), ("read", numbers), told)

    def test_all_blind_words_of_small_halls(self):
        for hall in (((2, 3, ((1, 0, 1), (0, 1, 1))), (2, 3, ((1, 1, 0),))), ((3, 2, ((1, 1),)), (3, 2, ((1, 2),)))):
            words = all_words(*hall[0][:2])
            for mark, lot in itertools.product(words[1::2], lots_below(hall[0][1])):
                for word, star in itertools.product(words, words):
                    told = blind_by_hand(hall, (mark,), (lot,), word, (star,))
                    self.check(hall, (mark,), (lot,), ("blind", word, (star,)), told)

    def test_numbers_that_are_changed_at_some_place(self):
        seen = set()
        for hall, plan, silences, chance in some_plans(211, 700, 6):
            prime, size, rows = hall[0]
            if not reads(hall, plan, silences):
                continue
            numbers = [list(words) for words in read_numbers(hall, plan, silences)]
            for _ in range(4):
                k, i = chance.randrange(len(rows)), chance.randrange(len(plan))
                other = [list(words) for words in numbers]
                if chance.random() < 0.7:
                    other[k][i] = plus(prime, other[k][i], some_word(chance, prime, size))
                else:
                    other[k][i] = some_word_in(chance, (prime, size, tuple(numbers[chance.randrange(len(rows))][i:i + 1])))
                thing = tuple(tuple(words) for words in other)
                told = numbers_by_hand(hall, plan, silences, thing)
                self.check(hall, plan, silences, ("read", thing), told)
                seen.add(told if told is True else told[1]["word"])
        self.assertLessEqual({True, "star", "told", "silent"}, seen)

    def test_blind_words_that_are_changed(self):
        seen = set()
        for hall, plan, silences, chance in some_plans(212, 700, 6):
            if reads(hall, plan, silences):
                continue
            prime, size, _ = hall[0]
            word, stars = unreadable(read_numbers, hall, plan, silences)["alike"]
            for _ in range(4):
                other, i = list(stars), chance.randrange(len(plan))
                more = some_word(chance, prime, size) if chance.random() < 0.5 else some_word_in(chance, star_of(*hall))
                other[i] = plus(prime, other[i], more)
                told = blind_by_hand(hall, plan, silences, word, tuple(other))
                self.check(hall, plan, silences, ("blind", word, tuple(other)), told)
                seen.add(told if told is False else told[1]["word"])
        self.assertEqual(seen, {False, "star", "silent"})


class Listed(unittest.TestCase):
    """Each word of the list with its place, and which comes first."""

    def refused(self, thing, word, at=-1, plan=ONE, silences=((),)):
        self.assertEqual(raised(lets_read, HALL, plan, silences, thing), invalid(word, at))

    def test_shape(self):
        things = [
            *ODD, 5, (), "read", ["read", NUMBERS], ("read",), ("read", NUMBERS, ()), ("reads", NUMBERS), ("Read", NUMBERS),
            (True, NUMBERS), (NUMBERS, "read"), (("read",), NUMBERS), ("blind", NUMBERS), ("read", [*NUMBERS]), ("read", None),
            ("read", "read"), ("blind",), ("blind", (1, 3, 0, 2)), ("blind", (1, 3, 0, 2), [(4, 2, 0, 3)]), [*BLIND], (*BLIND, 1),
            ("blind", (1, 3, 0, 2), None), ("read", (1, 3, 0, 2), ((4, 2, 0, 3),)), ("blinds", *BLIND[1:]), (None, *BLIND[1:]),
        ]
        for thing in things:
            self.refused(thing, "shape")
            self.refused(thing, "shape", -1, ONES, NONE)

    def test_rows_and_row(self):
        for numbers in ((), NUMBERS[:1], (*NUMBERS, NUMBERS[0]), (None,), (None,) * 3):
            self.refused(("read", numbers), "rows")
        words = (None, 1, "1", [(1, 0, 2, 2)], (), ((1, 0, 2, 2),) * 2, (1, 0, 2, 2), *[(word,) for word in NO_WORDS])
        for wrong in words:
            self.refused(("read", (wrong, None)), "row", 0)
            self.refused(("read", (NUMBERS[0], wrong)), "row", 1)
        for wrong in (((1, 0, 2, 2),) * 2, ((1, 0, 2, 2),) * 4, ((1, 0, 2, 2), (1, 0, 2, 2), None), ((0,) * 4, (0,) * 4, (0,) * 3)):
            self.refused(("read", (wrong, None)), "row", 0, ONES, NONE)

    def test_silent_star_told(self):
        self.assertIs(lets_read(HALL, ONE, ((),), ("read", NUMBERS)), True)
        zero = (0, 0, 0, 0)
        self.refused(("read", (((1, 0, 2, 2),), None)), "silent", (0, 0), ONE, ((0,),))
        self.refused(("read", (((0, 0, 2, 2),), None)), "silent", (0, 0), ONE, ((3,),))
        self.refused(("read", (((0, 0, 2, 2),), None)), "star", (0, 0), ONE, ((1,),))
        self.refused(("read", (((0, 1, 0, 0),), None)), "star", (0, 0))
        self.refused(("read", ((zero,), None)), "told", (0, 0))
        self.refused(("read", (((0, 1, 3, 1),), None)), "told", (0, 0))
        self.refused(("read", (((1, 1, 0, 3),), None)), "told", (0, 1))
        self.refused(("read", (NUMBERS[0], NUMBERS[0])), "told", (1, 0))
        self.refused(("read", (NUMBERS[0], (zero,))), "told", (1, 1))
        self.refused(("read", (NUMBERS[0], ((0, 2, 1, 2),))), "told", (1, 1))

    def test_round_by_round_all_checks_of_an_element_ahead_of_the_next_one(self):
        one, off, zero = (1, 0, 2, 2), (1, 0, 0, 0), (0, 0, 0, 0)
        lots = ((), (0,), (3,))
        self.refused(("read", ((off, one, one), None)), "star", (0, 0), ONES, lots)
        self.refused(("read", ((one, one, off), None)), "silent", (0, 1), ONES, lots)
        self.refused(("read", ((one, (0, 1, 0, 0), one), None)), "star", (0, 1), ONES, lots)
        self.refused(("read", ((one, zero, one), None)), "silent", (0, 2), ONES, lots)
        self.refused(("read", ((one, zero, off), None)), "star", (0, 2), ONES, lots)
        self.refused(("read", ((one, zero), None)), "row", 0, ONES, lots)
        self.refused(("read", ((zero, zero, zero), None)), "told", (0, 0), ONES, lots)
        self.refused(("read", ((one, zero, zero), None)), "row", 1, ONES, lots)
        self.refused(("read", ((one, zero, zero), (one, one, off))), "silent", (1, 1), ONES, lots)
        self.refused(("read", ((one, zero, zero), (zero, off, off))), "silent", (1, 1), ONES, lots)
        self.refused(("read", ((one, zero, zero), (zero, (0, 0, 0, 1), off))), "star", (1, 1), ONES, lots)
        self.refused(("read", ((one, zero, zero), (one, zero, zero))), "told", (1, 0), ONES, lots)
        self.refused(("read", ((one, zero, zero), (zero, zero, zero))), "told", (1, 1), ONES, lots)
        self.assertIs(lets_read(HALL, ONES, lots, ("read", ((one, zero, zero), (zero, (0, 1, 3, 1), zero)))), True)

    def test_word_and_stars(self):
        self.assertIs(lets_read(HALL, ONE, ((3,),), BLIND), False)
        for word in (*NO_WORDS, (0, 0, 0, 0), (1, 3, 0, 3), (1, 0, 0, 0)):
            for stars in (BLIND[2], (), (None,)):
                self.refused(("blind", word, stars), "word", -1, ONE, ((3,),))
        for stars in ((), BLIND[2] * 2, (None, None)):
            self.refused(("blind", (1, 3, 0, 2), stars), "stars", -1, ONE, ((3,),))

    def test_star_and_silent(self):
        for star in (*NO_WORDS, (4, 2, 0, 2), (1, 0, 0, 0)):
            self.refused(("blind", (1, 3, 0, 2), (star,)), "star", 0, ONE, ((3,),))
        for star in ((0, 0, 0, 0), (1, 3, 0, 2), (4, 3, 2, 1)):
            self.refused(("blind", (1, 3, 0, 2), (star,)), "silent", 0, ONE, ((3,),))
        self.refused(BLIND, "silent", 0, ONE, ((),))
        self.refused(BLIND, "silent", 0, ONE, ((2,),))

    def test_elements_of_stars_in_order(self):
        plan, lots, word, star = ONE * 3, ((3,), (3,), (0, 1, 2, 3)), (1, 3, 0, 2), (4, 2, 0, 3)
        self.assertIs(lets_read(HALL, plan, lots, ("blind", word, (star, star, (1, 1, 1, 1)))), False)
        self.refused(("blind", word, (star, (0,) * 4, None)), "silent", 1, plan, lots)
        self.refused(("blind", word, (star, (1, 0, 0, 0), (0,) * 4)), "star", 1, plan, lots)
        self.refused(("blind", word, ((0,) * 4, None, None)), "silent", 0, plan, lots)
        self.refused(("blind", word, (star, star, (1, 0, 0, 0))), "star", 2, plan, lots)
        self.refused(("blind", word, (star, star)), "stars", -1, plan, lots)

    def test_plans_and_silences_ahead_of_all(self):
        odd = {"plan": NO_PLANS, "silences": NO_SILENCES}
        for thing in (("read", NUMBERS), None, BLIND):
            check_refused(self, lets_read, (HALL,), {"plan": ONE, "silences": ((),), "thing": thing}, odd)

    def test_blind_words_of_the_judge_are_words_of_keep(self):
        words = sorted(words_by_hand(HALL[0]))
        told = [word for word in words if any(word)
                and raised(lets_read, HALL, ((0,) * 4,), ((),), ("blind", word, ((0,) * 4,))) == ("no error but", False)]
        self.assertEqual(told, words[1:])


if __name__ == "__main__":
    unittest.main()
