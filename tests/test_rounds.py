"""[73] to [76] and (G5) of [10]: how few rounds are enough."""

import itertools
import unittest

from starshelves.freelots import is_free
from starshelves.kinds import is_book
from starshelves.reading import blind_book, reads, told_rank
from starshelves.rounds import best_lots, cut_ratio, least_rounds, most_told, rest_book, rounds_cut, unit_marks
from tests.helper import (
    HALL, HIDE, KEEP, LEFT, LONG, ODD, PRIMES, REFUSED, all_words, check_refused, deals_by_hand, dot, great_left, lies_within,
    lots_below, not_usable, point_halls, raised, rank_by_hand, rank_of_rows, rest_of, shown, some_halls, some_left, some_lot, some_plan,
    star_by_hand, tiny_left, words_by_hand,
)


def ratio_by_hand(hall, silent, lot, left):
    """Both ranks, by going through all words."""
    prime, size, _ = hall[0]
    stars = star_by_hand(hall)
    rest = [one for one in all_words(prime, size) if lies_within(one, rest_of(size, silent)) and not any(dot(prime, one, star) for star in stars)]
    inner = {one for one in words_by_hand(left or hall[0]) if lies_within(one, lot)}
    return rank_by_hand(prime, inner), rank_by_hand(prime, {tuple(one[place] for place in lot) for one in rest})


class Cuts(unittest.TestCase):
    """[74]."""

    def test_rest_and_ratios_of_small_halls(self):
        for hall, silent, left, _ in tiny_left(261, 60):
            prime, size, _ = hall[0]
            stars, rest = star_by_hand(hall), rest_book(hall, silent)
            told = {one for one in all_words(prime, size)
                    if lies_within(one, rest_of(size, silent)) and not any(dot(prime, one, star) for star in stars)}
            self.assertTrue(is_book(rest))
            self.assertEqual([rest[:2], words_by_hand(rest)], [(prime, size), told])
            for lot in lots_below(size):
                self.assertEqual(shown(cut_ratio(hall, silent, lot, left)), shown(ratio_by_hand(hall, silent, lot, left)))

    def test_most_told_of_small_halls_by_all_ways_to_deal_the_shelves(self):
        for hall, silent, left, _ in tiny_left(262, 35):
            rest = rest_book(hall, silent)
            for many in range(3):
                told = deals_by_hand(left or hall[0], (rest,) * many)
                self.assertEqual(shown(most_told(hall, silent, many, left)), shown(told))

    def test_most_told_is_the_least_over_all_lots(self):
        for hall, silent, left, _ in great_left(263):
            rank, ratios = len((left or hall[0])[2]), [cut_ratio(hall, silent, lot, left) for lot in lots_below(hall[0][1])]
            for many in (0, 1, 2, 3, 8, 9, LONG):
                told = min(rank - first + many * second for first, second in ratios)
                self.assertEqual(shown(most_told(hall, silent, many, left)), shown(told))
            self.assertEqual(most_told(hall, silent, 0, left), 0)

    def test_left_none_is_for_keep(self):
        for hall, silent, _, chance in great_left(264, 2):
            lot = some_lot(chance, hall[0][1])
            self.assertEqual(cut_ratio(hall, silent, lot), cut_ratio(hall, silent, lot, hall[0]))
            self.assertEqual(cut_ratio(hall, silent, lot), cut_ratio(hall, silent, lot, None))
            for many in range(4):
                self.assertEqual(most_told(hall, silent, many), most_told(hall, silent, many, hall[0]))
            self.assertEqual(least_rounds(hall, silent), least_rounds(hall, silent, hall[0]))

    def test_left_without_rows(self):
        for hall, silent, _, chance in great_left(265, 2):
            none = (*hall[0][:2], ())
            self.assertEqual([least_rounds(hall, silent, none), best_lots(hall, silent, none), rounds_cut(hall, silent, 0, none)],
                             [0, (), None])
            self.assertEqual([most_told(hall, silent, many, none) for many in (0, 1, LONG)], [0, 0, 0])
            lot = some_lot(chance, hall[0][1])
            self.assertEqual(cut_ratio(hall, silent, lot, none), (0, cut_ratio(hall, silent, lot)[1]))

    def test_the_lot_without_shelves(self):
        for hall, silent, left, _ in great_left(266, 2):
            self.assertEqual(shown(cut_ratio(hall, silent, (), left)), "(0, 0)")

    def test_wrong_values(self):
        check_refused(self, rest_book, (HALL,), {"silent": (0,)}, REFUSED)
        check_refused(self, cut_ratio, (HALL,), {"silent": (0,), "lot": (1, 2, 3), "left": LEFT}, REFUSED)
        check_refused(self, most_told, (HALL,), {"silent": (0,), "many": 1, "left": LEFT}, REFUSED)
        check_refused(self, most_told, (HALL,), {"silent": (0, 1, 2, 3), "many": LONG, "left": None}, REFUSED)


class Least(unittest.TestCase):
    """[75]."""

    def check_shares(self, hall, silent, many, left, lots):
        rest, book, size = rest_book(hall, silent), left or hall[0], hall[0][1]
        self.assertIsInstance(lots, tuple)
        self.assertEqual(len(lots), many)
        places = [place for lot in lots for place in lot]
        self.assertEqual(len(places), len(set(places)))
        self.assertTrue(all(isinstance(lot, tuple) and list(lot) == sorted(lot) for lot in lots))
        self.assertTrue(all(is_free(rest, lot) for lot in lots))
        self.assertTrue(is_free(book, tuple(sorted(places))))
        self.assertEqual(len(places), len(book[2]))
        self.assertTrue(all(0 <= place < size for place in places))

    def test_least_rounds_shares_and_cuts(self):
        seen = set()
        for hall, silent, left, _ in [*tiny_left(267, 130, 3), *great_left(268, 6)]:
            size, rank = hall[0][1], len((left or hall[0])[2])
            fewest = [many for many in range(size + 2) if most_told(hall, silent, many, left) == rank]
            told = fewest[0] if fewest else None
            self.assertEqual(shown(least_rounds(hall, silent, left)), shown(told))
            if told is None:
                self.assertIsNone(best_lots(hall, silent, left))
            else:
                self.check_shares(hall, silent, told, left, best_lots(hall, silent, left))
            for many in (0, 1, 2, 3, size, size + 1, LONG):
                lot = rounds_cut(hall, silent, many, left)
                self.assertEqual(lot is None, told is not None and many >= told)
                if lot is not None:
                    self.assertIn(lot, lots_below(size))
                    first, second = cut_ratio(hall, silent, lot, left)
                    self.assertGreater(first, many * second)
            seen.add(told)
        self.assertLessEqual({None, 0, 1, 2, 3, 4, 5}, seen)

    def test_unit_marks(self):
        for size in range(1, 9):
            lots = tuple(lots_below(size)[::3])
            told = tuple(tuple(int(place in lot) for place in range(size)) for lot in lots)
            self.assertEqual(shown(unit_marks(size, lots)), shown(told))
        self.assertEqual(unit_marks(1, ((), (0,), ())), ((0,), (1,), (0,)))

    def test_wrong_values(self):
        check_refused(self, least_rounds, (HALL,), {"silent": (0,), "left": LEFT}, REFUSED)
        check_refused(self, best_lots, (HALL,), {"silent": (0, 1), "left": LEFT}, REFUSED)
        check_refused(self, rounds_cut, (HALL,), {"silent": (0,), "many": 1, "left": LEFT}, REFUSED)
        check_refused(self, rounds_cut, (HALL,), {"silent": (), "many": LONG, "left": None}, REFUSED)
        sizes = (None, True, False, 0, -1, -LONG, "4", (4,), [4])
        lots = (*ODD, 5, (), (0,), [(0,)], ([0],), ((4,),), ((1, 0),), ((0,), None), ((0,), (True,)), ((0,), (0, 0)), "0")
        lots = [thing for thing in lots if thing not in (((), ()), ((1,), (0,)))]
        check_refused(self, unit_marks, (), {"size": 4, "lots": ((1,), (0, 3))}, {"size": sizes, "lots": lots})
        self.assertEqual(raised(unit_marks, LONG, ((0, 0),)), not_usable("lots"))
        self.assertEqual(unit_marks(4, ((1,), (0,))), ((0, 1, 0, 0), (1, 0, 0, 0)))

    def test_left_is_the_last_parameter_and_may_be_left_out(self):
        self.assertEqual([least_rounds(HALL, (0,)), least_rounds(left=LEFT, silent=(0,), hall=HALL)], [2, 1])
        self.assertEqual(rounds_cut(many=1, hall=HALL, left=LEFT, silent=(0,)), None)
        self.assertEqual(best_lots(HALL, (), left=(5, 4, ())), ())

    def test_halls_of_the_examples_and_other_primes(self):
        for prime in PRIMES:
            hall = ((prime, 4, ((1, 0, 1, 1), (0, 1, 1, prime - 1))), (prime, 4, ()))
            self.assertEqual([least_rounds(hall, lot) for lot in ((), (0, 1), (0, 1, 2))], [1, 1 if prime > 2 else None, None])
        self.assertEqual([least_rounds((KEEP, HIDE), lot) for lot in lots_below(4)], [1, 2, 2, 2, 2] + [None] * 11)


class Guaranteed(unittest.TestCase):
    """(G5), held against all plans of small halls."""

    def halls(self, seed, most):
        for hall, silent, left, chance in tiny_left(seed, most, 3):
            yield hall, silent, left, chance

    def test_no_plan_of_so_many_rounds_tells_more(self):
        for hall, silent, _, _ in self.halls(271, 27):
            marks = all_words(*hall[0][:2])
            for many in (1, 2):
                if len(marks) ** many > 300:
                    continue
                plans = itertools.combinations_with_replacement(marks, many)
                self.assertEqual(max(told_rank(hall, plan, (silent,) * many) for plan in plans), most_told(hall, silent, many))

    def test_fewest_rounds_of_all_plans(self):
        for hall, silent, left, _ in self.halls(272, 16):
            words = words_by_hand(left or hall[0])
            marks, told = all_words(*hall[0][:2]), 0 if len(words) == 1 else None
            for many in (1, 2, 3):
                if told is None and len(marks) ** many < 5000:
                    plans = itertools.combinations_with_replacement(marks, many)
                    some = any(len(words & words_by_hand(blind_book(hall, plan, (silent,) * many))) == 1 for plan in plans)
                    told = many if some else None
                    self.assertEqual(some, least_rounds(hall, silent, left) == many)
            if told == 0:
                self.assertEqual(least_rounds(hall, silent, left), 0)

    def test_one_round_and_all_marks_over_all_primes(self):
        for hall, silent, _, _ in self.halls(273, 169):
            if hall[0][1] <= 2:
                told = max(told_rank(hall, (mark,), (silent,)) for mark in all_words(*hall[0][:2]))
                self.assertEqual(most_told(hall, silent, 1), told)

    def test_marks_that_are_1_on_shares_tell_just_so_much(self):
        for hall, silent, _, chance in [*tiny_left(274, 130, 3), *great_left(275, 6)]:
            least = least_rounds(hall, silent)
            if least is None:
                continue
            lots = best_lots(hall, silent)
            plan = unit_marks(hall[0][1], lots)
            self.assertIs(reads(hall, plan, (silent,) * least), True)
            for many in range(1, least):
                self.assertLess(most_told(hall, silent, many), len(hall[0][2]))
                for _ in range(3):
                    drawn_plan = tuple(some_plan(chance, hall)[0] for _ in range(many))
                    self.assertLessEqual(told_rank(hall, drawn_plan, (silent,) * many), most_told(hall, silent, many))

    def test_drawn_plans_of_great_halls(self):
        for hall, silent, _, chance in great_left(276, 6):
            plan = some_plan(chance, hall, 5)
            self.assertLessEqual(told_rank(hall, plan, (silent,) * len(plan)), most_told(hall, silent, len(plan)))


class Consequences(unittest.TestCase):
    """[76], at many inputs."""

    def test_least_rounds_are_the_greatest_quotient(self):
        for hall, silent, left, _ in [*tiny_left(277), *great_left(278)]:
            ratios = [cut_ratio(hall, silent, lot, left) for lot in lots_below(hall[0][1])]
            ratios = [(first, second) for first, second in ratios if first]
            if any(second == 0 for _, second in ratios):
                told = None
            else:
                told = max([0, *[-(-first // second) for first, second in ratios]])
            self.assertEqual(least_rounds(hall, silent, left), told)

    def test_fewer_silent_shelves_or_a_left_within_the_other_one(self):
        for hall, silent, left, chance in [*tiny_left(279), *great_left(280)]:
            told = least_rounds(hall, silent, left)
            if told is None:
                continue
            fewer = tuple(shelf for shelf in silent if chance.random() < 0.5)
            self.assertLessEqual(least_rounds(hall, fewer, left), told)
            rows = (left or hall[0])[2]
            part = (*hall[0][:2], rows[:chance.randint(0, len(rows))])
            self.assertLessEqual(least_rounds(hall, silent, part), told)

    def test_books_by_hand_are_books(self):
        for hall, chance in some_halls(281, 2):
            left = some_left(chance, hall) if hall[0][0] ** min(2, len(hall[0][2])) < 200 else None
            if left is not None:
                self.assertTrue(is_book(left))
                self.assertEqual(rank_of_rows(hall[0][0], [*hall[0][2], *left[2]]), len(hall[0][2]))
        for hall, silent, _ in point_halls(282):
            self.assertTrue(is_book(hall[0]) and is_book(hall[1]) and silent in lots_below(hall[0][1]))


if __name__ == "__main__":
    unittest.main()
