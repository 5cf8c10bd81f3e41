"""[53] to [56] and (G1) of [10]: who learns, and papers on it."""

import collections
import itertools
import unittest

from starshelves.asking import letters_of
from starshelves.books import checks_of, within_of
from starshelves.freelots import is_free
from starshelves.seechecker import lets_see
from starshelves.seeing import blind_lots, learning_lots, learns, like_of, tell_of
from starshelves.seepapers import see_paper
from tests.helper import (
    HALL, HIDE, KEEP, NO_LOTS, NO_WORDS, ODD, PRIMES, all_words, chance_of, check_refused, checks_by_hand, dot, greatest, invalid,
    least, lies_within, lots_below, plus, raised, rank_of_rows, rest_of, shown, some_book, some_halls, some_lot, some_word,
    some_word_in, tiny_halls, words_by_hand,
)

MARK = (1, 1, 0, 0)


def sights_by_hand(hall, mark, lot, words, checks):
    """All words of hide with the mark's digits on the lot, and all tells within it, by going through all words."""
    likes = [one for one in words if all(one[place] == mark[place] for place in lot)]
    tells = [one for one in checks if lies_within(one, lot) and dot(hall[0][0], one, mark)]
    return likes, tells


def some_marks(chance, hall):
    """Marks by chance: any words, a word of hide, and noughts."""
    prime, size, _ = hall[0]
    return [some_word(chance, prime, size), some_word(chance, prime, size), some_word_in(chance, hall[1]), (0,) * size]


def has_sum(prime, rows, places, digits):
    """Whether some sum of multiples of the rows has these digits at the places."""
    cut = [[row[place] for place in places] for row in rows]
    return rank_of_rows(prime, cut) == rank_of_rows(prime, [*cut, list(digits)])


def least_by_greed(prime, size, rows, places, digits):
    """The least sum of multiples of the rows with these digits at the places, digit by digit; None without one."""
    if not has_sum(prime, rows, places, digits):
        return None
    for place in range(size):
        digit = [digit for digit in range(prime) if has_sum(prime, rows, (*places, place), (*digits, digit))][0]
        places, digits = (*places, place), (*digits, digit)
    return digits[-size:]


def great_halls(seed, many=2):
    """Halls of eight shelves, with five rows in both books, over the greatest primes, and other great ones."""
    chance = chance_of(seed)
    for prime in (13, 13, 11, 7):
        for rank in (5, 4, 3)[:many]:
            yield (some_book(chance, prime, 8, 5), some_book(chance, prime, 8, rank, chance.randint(0, 1))), chance


class Seen(unittest.TestCase):
    """[53], held against going through all words of hide and its checks."""

    def test_small_halls(self):
        for hall, chance in tiny_halls(141):
            words, checks = sorted(words_by_hand(hall[1])), sorted(checks_by_hand(hall[1]))
            for mark in some_marks(chance, hall):
                for lot in lots_below(hall[0][1]):
                    likes, tells = sights_by_hand(hall, mark, lot, words, checks)
                    self.assertEqual(bool(likes), not tells)
                    self.assertEqual(shown(like_of(hall, mark, lot)), shown(likes[0] if likes else None))
                    self.assertEqual(shown(tell_of(hall, mark, lot)), shown(tells[0] if tells else None))
                    self.assertIs(learns(hall, mark, lot), bool(tells))

    def test_all_marks_of_one_hall(self):
        words, checks = sorted(words_by_hand(HIDE)), sorted(checks_by_hand(HIDE))
        for mark in all_words(5, 4)[::7]:
            for lot in lots_below(4):
                likes, tells = sights_by_hand(HALL, mark, lot, words, checks)
                self.assertEqual([like_of(HALL, mark, lot), tell_of(HALL, mark, lot)], [([*likes, None])[0], ([*tells, None])[0]])

    def test_least_ones_of_great_halls_digit_by_digit(self):
        for hall, chance in great_halls(142):
            prime, size, rows = hall[1]
            checks = checks_of(hall[1])[2]
            for mark in (some_word(chance, prime, size), some_word_in(chance, hall[1])):
                longer = [(*row, dot(prime, row, mark)) for row in checks]
                for lot in (some_lot(chance, size), tuple(sorted(chance.sample(range(size), 7)))):
                    like = least_by_greed(prime, size, rows, lot, tuple(mark[place] for place in lot))
                    self.assertEqual(shown(like_of(hall, mark, lot)), shown(like))
                    rest = rest_of(size, lot)
                    ways = [least_by_greed(prime, size, longer, (*rest, size), (0,) * len(rest) + (digit,)) for digit in range(1, prime)]
                    ways = [way for way in ways if way]
                    self.assertEqual(shown(tell_of(hall, mark, lot)), shown(min(ways) if ways else None))
                    self.assertIs(learns(hall, mark, lot), like is None)

    def test_no_sum_of_great_halls_is_less(self):
        for hall, chance in great_halls(143, 3):
            prime, size, _ = hall[1]
            for _ in range(6):
                mark, lot = some_word(chance, prime, size), some_lot(chance, size)
                like, tell = like_of(hall, mark, lot), tell_of(hall, mark, lot)
                self.assertEqual(like is None, tell is not None)
                for _ in range(20):
                    if like is None:
                        other = some_word_in(chance, within_of(checks_of(hall[1]), lot))
                        self.assertTrue(tell <= other or dot(prime, other, mark) == 0)
                    else:
                        other = plus(prime, like, some_word_in(chance, within_of(hall[1], rest_of(size, lot))))
                        self.assertLessEqual(like, other)

    def test_hide_without_rows_and_with_all_words(self):
        for prime in PRIMES:
            keep = (prime, 3, ((1, 0, 1), (0, 1, 1)))
            none, every = (keep, (prime, 3, ())), (keep, (prime, 3, ((1, 0, 0), (0, 1, 0), (0, 0, 1))))
            for mark in all_words(prime, 3)[::17]:
                for lot in lots_below(3):
                    seen = any(mark[place] for place in lot)
                    self.assertIs(learns(none, mark, lot), seen)
                    self.assertEqual(like_of(none, mark, lot), None if seen else (0, 0, 0))
                    last = [place for place in lot if mark[place]][-1:]
                    told = tuple(int(place in last) for place in range(3)) if last else None
                    self.assertEqual(tell_of(none, mark, lot), told)
                    self.assertIs(learns(every, mark, lot), False)
                    self.assertEqual(like_of(every, mark, lot), tuple(mark[place] if place in lot else 0 for place in range(3)))
                    self.assertIsNone(tell_of(every, mark, lot))
                    self.assertEqual([learning_lots(every, mark), blind_lots(every, mark)], [(), ((0, 1, 2),)])

    def test_the_lot_without_shelves_never_learns(self):
        for hall, chance in some_halls(144):
            mark = some_word(chance, *hall[0][:2])
            told = [learns(hall, mark, ()), like_of(hall, mark, ()), tell_of(hall, mark, ())]
            self.assertEqual(shown(told), shown([False, (0,) * hall[0][1], None]))

    def test_wrong_values(self):
        odd = {"mark": NO_WORDS, "lot": NO_LOTS}
        for call in (learns, like_of, tell_of, see_paper):
            check_refused(self, call, (HALL,), {"mark": MARK, "lot": (0, 2)}, odd)
        for call in (learning_lots, blind_lots):
            check_refused(self, call, (HALL,), {"mark": MARK}, odd)
        for thing in (("like", (1, 1, 1, 1)), None):
            check_refused(self, lets_see, (HALL,), {"mark": MARK, "lot": (0, 1), "thing": thing}, odd)


class LotsThatLearn(unittest.TestCase):
    """[54], held against going through all lots."""

    def test_least_and_greatest_lots(self):
        for hall, chance in some_halls(145):
            for mark in some_marks(chance, hall):
                lots = lots_below(hall[0][1])
                told = {lot: learns(hall, mark, lot) for lot in lots}
                self.assertEqual(shown(learning_lots(hall, mark)), shown(least([lot for lot in lots if told[lot]])))
                self.assertEqual(shown(blind_lots(hall, mark)), shown(greatest([lot for lot in lots if not told[lot]])))

    def test_words_of_hide_are_learned_of_by_none(self):
        for hall, chance in some_halls(146):
            mark = some_word_in(chance, hall[1])
            self.assertEqual([learning_lots(hall, mark), blind_lots(hall, mark)], [(), (tuple(range(hall[0][1])),)])


class Counted(unittest.TestCase):
    """(G1): who learns, held against counting the letters by all covers."""

    def check(self, hall, stock, mark):
        words = sorted(words_by_hand(hall[1]))
        slots = [(at, row) for at, file in enumerate(stock) for row in range(len(file))]
        counts = {(lot, slot): collections.Counter() for lot in lots_below(hall[0][1]) for slot in slots}
        for drawn in itertools.product(words, repeat=len(slots)):
            rest = list(drawn)
            covers = tuple(tuple(rest.pop(0) for _ in file) for file in stock)
            for slot in slots:
                letters = letters_of(hall, stock, (slot, mark), covers)
                for lot in lots_below(hall[0][1]):
                    counts[lot, slot][tuple(letters[shelf] for shelf in lot)] += 1
        for lot in lots_below(hall[0][1]):
            for one, other in itertools.combinations(slots, 2):
                left, right = counts[lot, one], counts[lot, other]
                if learns(hall, mark, lot):
                    self.assertEqual(set(left) & set(right), set())
                else:
                    self.assertEqual(left, right)

    def test_shapes_of_the_hall_of_the_examples(self):
        one = (1, 2, 3, 4)
        for stock in (((one,), (one,)), ((one, one),)):
            for mark in (MARK, (2, 2, 2, 2), (0, 0, 0, 0), (4, 0, 4, 0), (0, 1, 2, 3)):
                self.check(HALL, stock, mark)

    def test_three_slots(self):
        hall = ((2, 3, ((1, 0, 1), (0, 1, 1))), (2, 3, ((1, 1, 0), (0, 0, 1))))
        for mark in all_words(2, 3):
            self.check(hall, (((1, 0, 1),), ((0, 1, 1), (1, 1, 0))), mark)

    def test_small_halls_over_all_primes(self):
        for hall, chance in tiny_halls(147, 13, 1):
            stock = ((hall[0][2][0],), (hall[0][2][0],))
            for mark in (some_word(chance, *hall[0][:2]), some_word(chance, *hall[0][:2])):
                self.check(hall, stock, mark)


class Papers(unittest.TestCase):
    """[55]: papers, and their judge."""

    def judged_by_hand(self, hall, mark, lot, kind, word):
        """What the judge has to say of such a paper, by its list."""
        prime, size, rows = hall[1]
        if kind == "like":
            if rank_of_rows(prime, [*rows, word]) > len(rows):
                return invalid("hide")
            wrong = [place for place in lot if word[place] != mark[place]]
            return invalid("digit", wrong[0]) if wrong else False
        for place in rest_of(size, lot):
            if word[place]:
                return invalid("within", place)
        for k, row in enumerate(rows):
            if dot(prime, word, row):
                return invalid("check", k)
        return True if dot(prime, word, mark) else invalid("nought")

    def test_all_words_as_papers(self):
        for hall, chance in tiny_halls(151, 60, 1):
            for mark in some_marks(chance, hall)[1:]:
                for lot in lots_below(hall[0][1]):
                    accepted = set()
                    for kind, word in itertools.product(("like", "tell"), all_words(*hall[0][:2])):
                        told = self.judged_by_hand(hall, mark, lot, kind, word)
                        if isinstance(told, bool):
                            self.assertIs(lets_see(hall, mark, lot, (kind, word)), told)
                            accepted.add(told)
                        else:
                            self.assertEqual(raised(lets_see, hall, mark, lot, (kind, word)), told)
                    self.assertEqual(accepted, {learns(hall, mark, lot)})

    def test_papers_that_are_made_are_accepted(self):
        for hall, chance in [*some_halls(152), *great_halls(153)]:
            for mark in some_marks(chance, hall):
                for lot in ((), some_lot(chance, hall[0][1]), tuple(range(hall[0][1]))):
                    paper = see_paper(hall, mark, lot)
                    self.assertIsInstance(paper, tuple)
                    self.assertIs(lets_see(hall, mark, lot, paper), learns(hall, mark, lot))
                    self.assertEqual(paper[0], "tell" if learns(hall, mark, lot) else "like")
                    self.assertEqual(self.judged_by_hand(hall, mark, lot, *paper), paper[0] == "tell")

    def refused(self, lot, thing, word, at=-1):
        self.assertEqual(raised(lets_see, HALL, MARK, lot, thing), invalid(word, at))

    def test_shape(self):
        word = (1, 1, 1, 1)
        things = [
            *ODD, 5, (), "like", ["like", word], ("like",), ("like", word, ()), ("likes", word), ("Tell", word), (word, "like"),
            (["like"], word), (True, word), (1, word), (None, word), (("like",), word), ("see", word),
        ]
        for thing in (*things, *[(kind, wrong) for kind in ("like", "tell") for wrong in NO_WORDS]):
            for lot in ((), (0, 1), (0, 1, 2, 3)):
                self.refused(lot, thing, "shape")

    def test_like(self):
        self.assertIs(lets_see(HALL, MARK, (0, 1), ("like", (1, 1, 1, 1))), False)
        self.assertIs(lets_see(HALL, MARK, (), ("like", (3, 3, 3, 3))), False)
        self.refused((0, 1, 2, 3), ("like", (1, 1, 1, 0)), "hide")
        self.refused((), ("like", (1, 1, 1, 0)), "hide")
        self.refused((0, 1, 2, 3), ("like", (1, 1, 1, 1)), "digit", 2)
        self.refused((0, 1, 3), ("like", (1, 1, 1, 1)), "digit", 3)
        self.refused((1, 2, 3), ("like", (0, 0, 0, 0)), "digit", 1)
        self.refused((0, 1), ("like", (2, 2, 2, 2)), "digit", 0)

    def test_tell(self):
        self.assertIs(lets_see(HALL, MARK, (0, 2), ("tell", (1, 0, 4, 0))), True)
        self.assertIs(lets_see(HALL, MARK, (0, 1, 2, 3), ("tell", (2, 2, 2, 4))), True)
        self.refused((0, 1), ("tell", (1, 0, 4, 1)), "within", 2)
        self.refused((), ("tell", (1, 1, 1, 1)), "within", 0)
        self.refused((0, 1, 2), ("tell", (0, 0, 0, 1)), "within", 3)
        self.refused((0, 2), ("tell", (1, 0, 1, 0)), "check", 0)
        self.refused((0, 2), ("tell", (0, 0, 0, 0)), "nought")
        self.refused((0, 1), ("tell", (1, 4, 0, 0)), "nought")

    def test_the_first_row_that_is_not_checked(self):
        hall = (KEEP, (5, 4, ((1, 0, 0, 2), (0, 1, 0, 3), (0, 0, 1, 1))))
        for word, told in (((0, 1, 0, 0), 1), ((0, 1, 1, 0), 1), ((0, 0, 1, 0), 2), ((0, 0, 0, 1), 0), ((3, 0, 0, 1), 1),
                           ((3, 2, 0, 1), 2), ((3, 2, 4, 1), None)):
            lot = (0, 1, 2, 3)
            if told is None:
                self.assertIs(lets_see(hall, (1, 0, 0, 0), lot, ("tell", word)), True)
                self.assertEqual(raised(lets_see, hall, (1, 0, 0, 2), lot, ("tell", word)), invalid("nought"))
            else:
                self.assertEqual(raised(lets_see, hall, (1, 0, 0, 0), lot, ("tell", word)), invalid("check", told))

    def test_several_entries_at_once(self):
        self.refused((0, 1), ("tell", (0, 0, 1, 0)), "within", 2)
        self.refused((0, 1), ("like", (0, 0, 1, 0)), "hide")
        self.refused((0, 1), ("tell", (0, 0, 1, 4)), "within", 2)
        self.refused((2, 3), ("tell", (0, 0, 1, 1)), "check", 0)


class Consequences(unittest.TestCase):
    """[56], at many inputs."""

    def test_parts_of_lots(self):
        for hall, chance in some_halls(154):
            for mark in some_marks(chance, hall)[:3]:
                some, none = learning_lots(hall, mark), blind_lots(hall, mark)
                for lot in lots_below(hall[0][1])[::2]:
                    seen = learns(hall, mark, lot)
                    self.assertIs(seen, any(set(part) <= set(lot) for part in some))
                    self.assertIs(seen, not any(set(lot) <= set(more) for more in none))

    def test_marks_that_differ_by_a_word_of_hide_or_a_factor(self):
        for hall, chance in some_halls(155):
            prime, size, _ = hall[0]
            mark = some_word(chance, prime, size)
            for digit in range(1, prime):
                other = plus(prime, some_word_in(chance, hall[1]), mark, digit)
                self.assertEqual(learning_lots(hall, other), learning_lots(hall, mark))
                self.assertEqual(blind_lots(hall, other), blind_lots(hall, mark))
                lot = some_lot(chance, size)
                self.assertIs(learns(hall, other, lot), learns(hall, mark, lot))

    def test_free_lots_learn_of_no_mark(self):
        for hall, _ in tiny_halls(156, 60, 1):
            for lot in lots_below(hall[0][1]):
                some = any(learns(hall, mark, lot) for mark in all_words(*hall[0][:2]))
                self.assertIs(some, not is_free(hall[1], lot))


if __name__ == "__main__":
    unittest.main()
