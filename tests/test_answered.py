"""[67], [68], [70] and (G4) of [10]: words by answers, some missing, some lies."""

import inspect
import itertools
import unittest

from starshelves.answered import explaining, liars_by, sure_word, told_sum, word_of
from starshelves.lying import bears
from starshelves.reading import read_numbers, reads, told_sums
from tests.helper import (
    HALL, LONG, NO_NUMBERS, NO_PLANS, NO_WORDS, ODD, PRIMES, all_words, check_refused, dot, explains_by_hand, great_plans,
    is_blind_by_hand, leads_by_hand, lies_within, lied_answers, lots_below, not_usable, plus, raised, rest_of, sent_answers,
    shown, some_lot, some_plans, some_slot, some_stock, some_word_in, star_by_hand, times_by_hand, words_by_hand,
)
from tests.test_reading import unreadable

ONE, ONES = ((1, 1, 0, 0),), ((1, 0, 0, 0), (0, 1, 0, 0), (0, 0, 1, 0))
FOUR, THREE = (((0, 3), (1, 1), (2, 2), (3, 0)),), (((0, 3), (1, 1), (2, 2)),)
LIED = (((0, 2), (1, 0), (2, 0), (3, 0)), ((0, 0), (1, 3), (2, 0), (3, 0)), ((0, 0), (1, 0), (2, 2), (3, 0)))
TORN = ("Torn", {"ways": ()})
NO_ANSWERS = (
    *ODD, 5, (), [FOUR[0]], FOUR * 2, FOUR[0], ([*FOUR[0]],), ((0, 3),), (((1, 1), (0, 3)),),
    (((0, 3), (0, 3)),), (((0, 3), (4, 1)),), (((-1, 3),),), (((0, 5),),), (((0, -1),),), (((0, True),),), (((False, 1),),),
    (((0, 3, 1),),), (((0,),),), (([0, 3],),), ((None,),), (None,), ((("0", 3),),), (((0, "3"),),), (((0, None),),), (((LONG, 1),),),
    ((((0,), 1),),), (0,), "0 3",
)
REFUSED = {"plan": NO_PLANS, "answers": NO_ANSWERS, "most": NO_NUMBERS}


def heard_silences(hall, answers):
    """For each round the lot of the shelves that did not answer."""
    return tuple(rest_of(hall[0][1], [shelf for shelf, _ in part]) for part in answers)


def sent(hall, plan, silences, chance):
    """A wanted word by chance, and the answers to asks for it."""
    stock = some_stock(chance, hall)
    at, row = some_slot(chance, stock)
    return stock[at][row], sent_answers(hall, stock, (at, row), plan, silences, chance)


def some_answers(chance, hall, plan):
    """Any answers, that came about by no ask."""
    return tuple(tuple((shelf, chance.randrange(hall[0][0])) for shelf in some_lot(chance, hall[0][1])) for _ in plan)


def drawn(seed, most=130, many=2, rounds=3):
    """Tiny halls with a plan, the wanted word, and answers of which some are missing, and some perhaps lies."""
    for hall, plan, silences, chance in some_plans(seed, most, many, rounds):
        wanted, answers = sent(hall, plan, silences, chance)
        yield hall, plan, wanted, answers, chance
        yield hall, plan, wanted, lied_answers(hall[0][0], answers, some_lot(chance, hall[0][1])[:2], chance), chance


class Explaining(unittest.TestCase):
    """[67], held against each word of keep, each word of the star, and each lot."""

    def by_hand(self, hall, plan, answers, most):
        lots = [lot for lot in lots_below(hall[0][1]) if len(lot) <= most]
        stars, words = star_by_hand(hall), sorted(words_by_hand(hall[0]))
        return [one for one in words if any(explains_by_hand(hall, plan, answers, one, stars, lot) for lot in lots)]

    def test_small_halls(self):
        counts = set()
        for hall, plan, _, answers, chance in drawn(221, 35, 2):
            for given in (answers, some_answers(chance, hall, plan)):
                for most in range(hall[0][1] + 2):
                    told = self.by_hand(hall, plan, given, most)
                    self.assertEqual(shown(list(explaining(hall, plan, given, most))), shown(told))
                    counts.add((most, min(len(told), 2)))
        self.assertLessEqual({(0, 0), (0, 1), (0, 2), (1, 0), (1, 1), (1, 2), (2, 1), (2, 2)}, counts)

    def test_the_same_lot_in_all_rounds(self):
        # In each round another shelf lies: but for one lot of one shelf no word explains that.
        answers = (((0, 2), (1, 1), (2, 0), (3, 0)), ((0, 0), (1, 2), (2, 0), (3, 1)), ((0, 0), (1, 0), (2, 2), (3, 0)))
        for most in range(5):
            self.assertEqual(list(explaining(HALL, ONES, answers, most)), self.by_hand(HALL, ONES, answers, most))

    def test_it_is_a_generator(self):
        found = explaining(HALL, ONE, THREE, 0)
        self.assertTrue(inspect.isgenerator(found))
        self.assertEqual([next(found), next(found)], [(0, 1, 2, 3), (1, 4, 2, 0)])
        self.assertEqual([*found], [(2, 2, 2, 2), (3, 0, 2, 4), (4, 3, 2, 1)])
        for given in ((None, FOUR, 0), (ONE, None, 0), (ONE, FOUR, None)):
            found = explaining(HALL, *given)
            self.assertEqual(raised(next, found)[0], "NotUsable")

    def test_wrong_values(self):
        call = lambda *given, **named: list(explaining(*given, **named))
        check_refused(self, call, (HALL,), {"plan": ONE, "answers": FOUR, "most": 0}, REFUSED)
        check_refused(self, call, (HALL,), {"plan": ONES, "answers": LIED, "most": 0},
                      {"answers": (LIED[:2], LIED + LIED[:1], (*LIED[:2], None), (*LIED[:2], ((1, 0), (0, 0))), [*LIED])})

    def test_seven_hundred_words_and_numbers_beyond_the_size(self):
        hall = ((5, 8, tuple(tuple(int(j == k) for j in range(4)) + (1, 2, 3, 4) for k in range(4))), (5, 8, ()))
        words = sorted(words_by_hand(hall[0]))
        for most in (8, 9, 60, LONG):
            self.assertEqual(list(explaining(hall, ((1,) * 8,), (tuple((k, 1) for k in range(8)),), most)), words)
        answers = (tuple(enumerate(words[77])),)
        self.assertEqual(list(explaining(hall, ((1,) * 8,), answers, 0)), [words[77]])

    def test_answers_of_no_shelf(self):
        for hall, plan, _, _ in great_plans(222, 2):
            if hall[0][0] ** len(hall[0][2]) <= 700:
                words = sorted(words_by_hand(hall[0]))
                self.assertEqual(list(explaining(hall, plan, ((),) * len(plan), 0)), words)

    def test_eight_rounds(self):
        for hall, plan, wanted, answers, _ in drawn(223, 30, 1, 8):
            plan, answers = (plan * 8)[:8], (answers * 8)[:8]
            for most in (0, 1):
                self.assertEqual(list(explaining(hall, plan, answers, most)), self.by_hand(hall, plan, answers, most))


class Words(unittest.TestCase):
    """[67]: word_of and told_sum."""

    def test_the_wanted_word_by_drawn_stocks_and_covers(self):
        told = []
        for hall, plan, silences, chance in [*some_plans(224, 700, 4), *great_plans(225, 8)]:
            wanted, answers = sent(hall, plan, silences, chance)
            told.append(reads(hall, plan, silences))
            if told[-1]:
                self.assertEqual(shown(word_of(hall, plan, answers)), shown(wanted))
            else:
                self.assertEqual(raised(word_of, hall, plan, answers)[0], "Unreadable")
            leads, prime = [wanted[place] for place in leads_by_hand(hall[0])], hall[0][0]
            book = told_sums(hall, plan, silences)
            for weights in (some_word_in(chance, book), some_word_in(chance, book), *book[2]):
                self.assertEqual(shown(told_sum(hall, plan, answers, weights)), shown(dot(prime, weights, leads)))
        self.assertTrue(30 < sum(told) < len(told) - 30)

    def test_unreadable_tells_words_alike(self):
        many = 0
        for hall, plan, _, answers, chance in drawn(226, 60):
            for given in (answers, some_answers(chance, hall, plan)):
                silences = heard_silences(hall, given)
                if not reads(hall, plan, silences):
                    alike, many = unreadable(word_of, hall, plan, given)["alike"], many + 1
                    word, stars = alike
                    self.assertIn(word, words_by_hand(hall[0]))
                    self.assertTrue(any(word) and len(stars) == len(plan) and isinstance(stars, tuple))
                    self.assertTrue(is_blind_by_hand(hall, plan, silences, word, star_by_hand(hall)))
                    for star, mark, silent in zip(stars, plan, silences):
                        self.assertIn(star, star_by_hand(hall))
                        self.assertTrue(lies_within(plus(hall[0][0], star, times_by_hand(hall[0][0], word, mark)), silent))
                    self.assertEqual(raised(word_of, hall, plan, given)[0], raised(read_numbers, hall, plan, silences)[0])
        self.assertGreater(many, 30)

    def test_all_answers_of_small_halls(self):
        two, three = ((2, 3, ((1, 0, 1), (0, 1, 1))), (2, 3, ())), ((3, 2, ((1, 1),)), (3, 2, ((1, 2),)))
        for hall, plan in ((two, ((1, 1, 1),)), (three, ((1, 0),)), (HALL, ONE)):
            stars, words = star_by_hand(hall), sorted(words_by_hand(hall[0]))
            for lot in lots_below(hall[0][1]):
                silences = (rest_of(hall[0][1], lot),)
                weights = told_sums(hall, plan, silences)[2]
                for digits in all_words(hall[0][0], len(lot))[::3]:
                    answers = (tuple(zip(lot, digits)),)
                    found = [one for one in words if explains_by_hand(hall, plan, answers, one, stars, ())]
                    if not reads(hall, plan, silences):
                        self.assertEqual(raised(word_of, hall, plan, answers)[0], "Unreadable")
                    elif found:
                        self.assertEqual([word_of(hall, plan, answers)], found)
                    else:
                        self.assertEqual(raised(word_of, hall, plan, answers), TORN)
                    for weight in (*weights, (0,) * len(hall[0][2])):
                        told = raised(told_sum, hall, plan, answers, weight)
                        sums = {dot(hall[0][0], weight, [one[place] for place in leads_by_hand(hall[0])]) for one in found}
                        self.assertEqual(told, ("no error but", sums.pop()) if found else TORN)
                        self.assertEqual(sums, set())

    def test_lies_tear(self):
        answers = (((0, 3), (1, 1), (2, 2), (3, 0)),) * 2
        self.assertEqual(word_of(HALL, ONE * 2, answers), (2, 2, 2, 2))
        wrong = (answers[0], ((0, 3), (1, 1), (2, 2), (3, 1)))
        self.assertEqual(raised(word_of, HALL, ONE * 2, wrong), TORN)
        for weights in ((0, 0), (1, 0), (4, 3)):
            self.assertEqual(raised(told_sum, HALL, ONE * 2, wrong, weights), TORN)

    def test_unreadable_is_ahead_of_torn(self):
        plan, answers = ((1, 1, 0, 0), (0, 0, 0, 0)), (((0, 3), (1, 1)), ((0, 1), (1, 1), (2, 1), (3, 2)))
        self.assertEqual(list(explaining(HALL, plan, answers, 0)), [])
        self.assertEqual(raised(word_of, HALL, plan, answers)[0], "Unreadable")
        self.assertEqual(raised(told_sum, HALL, plan, answers, (0, 0)), TORN)

    def test_wrong_values(self):
        check_refused(self, word_of, (HALL,), {"plan": ONE, "answers": FOUR}, REFUSED)
        check_refused(self, word_of, (HALL,), {"plan": ((0,) * 4,), "answers": ((),)}, REFUSED)
        weights = (
            *ODD, 5, (), (1,), (1, 3, 0), [1, 3], (1, 2), (1, 0), (0, 1), (2, 2), (1, 8), (1, -2), (True, 3), (False, False), (1, None),
            "1 3",
        )
        odd = {**REFUSED, "weights": weights}
        check_refused(self, told_sum, (HALL,), {"plan": ONE, "answers": THREE, "weights": (1, 3)}, odd)
        torn = (((0, 3), (1, 1), (2, 2)), ((0, 0), (1, 1), (2, 0)))
        self.assertEqual(raised(told_sum, HALL, ((1, 1, 0, 0), (0,) * 4), torn, (1, 3)), TORN)
        check_refused(self, told_sum, (HALL,), {"plan": ((1, 1, 0, 0), (0,) * 4), "answers": torn, "weights": (1, 3)}, {"weights": weights})

    def test_weights_are_of_as_many_digits_as_keep_has_rows(self):
        for prime in PRIMES:
            hall = ((prime, 2, ((1, 1),)), (prime, 2, ()))
            for weights in ((1, 0), (), ((1,),)):
                self.assertEqual(raised(told_sum, hall, ((1, 0),), (((0, 1),),), weights), not_usable("weights"))
            self.assertEqual(told_sum(hall, ((1, 0),), (((0, 1),),), (prime - 1,)), prime - 1)


class Liars(unittest.TestCase):
    """[70]."""

    def test_lots_of_the_fewest_shelves(self):
        for hall, plan, wanted, answers, chance in drawn(227, 60):
            stars, words = star_by_hand(hall), sorted(words_by_hand(hall[0]))
            for word in (wanted, words[0], words[chance.randrange(len(words))]):
                lots = [lot for lot in lots_below(hall[0][1]) if explains_by_hand(hall, plan, answers, word, stars, lot)]
                fewest = min(len(lot) for lot in lots)
                told = tuple(sorted(lot for lot in lots if len(lot) == fewest))
                self.assertEqual(shown(liars_by(hall, plan, answers, word)), shown(told))

    def test_liars_are_found(self):
        self.assertEqual(liars_by(HALL, ONES, LIED, (2, 2, 2, 2)), ((1,),))
        self.assertEqual(liars_by(HALL, ONES, ((), (), ()), (2, 2, 2, 2)), ((),))
        for hall, plan, silences, chance in great_plans(228, 3, 4):
            wanted, answers = sent(hall, plan, silences, chance)
            self.assertEqual(liars_by(hall, plan, answers, wanted), ((),))
            liars = some_lot(chance, hall[0][1])[:2]
            lots = liars_by(hall, plan, lied_answers(hall[0][0], answers, liars, chance), wanted)
            self.assertLessEqual(len(lots[0]), len(liars))

    def test_the_only_word(self):
        counts = set()
        for hall, plan, _, answers, chance in drawn(229, 130, 3):
            for most in range(3):
                ways = tuple(explaining(hall, plan, answers, most))
                if len(ways) == 1:
                    self.assertEqual(shown(sure_word(hall, plan, answers, most)), shown(ways[0]))
                else:
                    self.assertEqual(shown(raised(sure_word, hall, plan, answers, most)), shown(("Torn", {"ways": ways})))
                counts.add(min(2, len(ways)))
        self.assertEqual(counts, {0, 1, 2})
        self.assertEqual(raised(sure_word, HALL, ONES, LIED, 0), TORN)

    def test_wrong_values(self):
        words = (*NO_WORDS, (1, 0, 0, 0), (1, 2, 3, 0))
        odd = {**REFUSED, "word": words}
        check_refused(self, liars_by, (HALL,), {"plan": ONE, "answers": FOUR, "word": (2, 2, 2, 2)}, odd)
        check_refused(self, sure_word, (HALL,), {"plan": ONE, "answers": FOUR, "most": 0}, odd)
        check_refused(self, sure_word, (HALL,), {"plan": ONES, "answers": LIED, "most": 1}, {"most": NO_NUMBERS})
        self.assertEqual(raised(sure_word, HALL, ONE, FOUR, LONG)[0], "Torn")


class Sure(unittest.TestCase):
    """(G4), by liars that are drawn, and by liars that are made to mislead."""

    def test_at_most_so_many_liars(self):
        many = 0
        for hall, plan, silences, chance in some_plans(231, 700, 6, 5):
            for lied, most in itertools.product(range(3), range(3)):
                if len(words_by_hand(hall[0])) > 130 or not bears(hall, plan, silences, lied + most):
                    continue
                many += 1
                wanted, answers = sent(hall, plan, silences, chance)
                liars = tuple(sorted(chance.sample(range(hall[0][1]), min(lied, hall[0][1]))))
                answers = lied_answers(hall[0][0], answers, liars, chance)
                found = list(explaining(hall, plan, answers, most))
                self.assertIn(found, ([wanted], [] if most < lied else [wanted]))
                if most >= lied:
                    self.assertEqual(sure_word(hall, plan, answers, most), wanted)
        self.assertGreater(many, 60)

    def test_liars_that_mislead(self):
        many = 0
        for hall, plan, silences, chance in some_plans(232, 350, 3, 5):
            prime, size, _ = hall[0]
            for lied, most in itertools.product(range(3), range(3)):
                if bears(hall, plan, silences, lied + most) or lied + most > size:
                    continue
                lots = [lot for lot in lots_below(size) if len(lot) == lied + most]
                lot = [lot for lot in lots if not reads(hall, plan, tuple(tuple(sorted({*lot, *part})) for part in silences))][0]
                more = tuple(tuple(sorted({*lot, *part})) for part in silences)
                other, stars = unreadable(read_numbers, hall, plan, more)["alike"]
                wanted, answers = sent(hall, plan, silences, chance)
                wrong = []
                for mark, star, part in zip(plan, stars, answers):
                    step = plus(prime, star, times_by_hand(prime, other, mark))
                    wrong.append(tuple((shelf, (digit + step[shelf] * (shelf in lot[:lied])) % prime) for shelf, digit in part))
                self.assertIn(plus(prime, wanted, other), list(explaining(hall, plan, tuple(wrong), most)))
                many += 1
        self.assertGreater(many, 60)


class Consequences(unittest.TestCase):
    """[68], at many inputs."""

    def test_word_of_is_the_only_word_for_most_0(self):
        many = 0
        for hall, plan, _, answers, _ in drawn(233, 350, 3):
            told = raised(word_of, hall, plan, answers)
            if told[0] == "no error but":
                self.assertEqual(list(explaining(hall, plan, answers, 0)), [told[1]])
                many += 1
            elif told == TORN:
                self.assertEqual(list(explaining(hall, plan, answers, 0)), [])
        self.assertGreater(many, 30)

    def test_with_greater_most_no_word_is_lost(self):
        for hall, plan, _, answers, _ in drawn(234, 130):
            found = [list(explaining(hall, plan, answers, most)) for most in range(hall[0][1] + 1)]
            for less, more in zip(found, found[1:]):
                self.assertLessEqual(set(less), set(more))
            self.assertEqual(found[-1], sorted(words_by_hand(hall[0])))


if __name__ == "__main__":
    unittest.main()
