"""[31] to [33]: lots put together, their papers and consequences."""

import unittest

from starshelves.commonlots import common_lot
from starshelves.freelots import bases_of, is_free, rank_on
from starshelves.jointchecker import lets_joint
from starshelves.joinedlots import joint_cut, joint_lots, joint_size
from starshelves.kinds import is_lot
from tests.helper import (
    HIDE, KEEP, ODD, PAIRS, PRIMES, chance_of, deals_by_hand, invalid, lots_below, not_usable, raised, rest_of, shown,
    some_book,
)

ALL = (3, 8, tuple(tuple(1 if k == place else 0 for k in range(8)) for place in range(8)))


def some_calls(seed, most_size, most_others, many=4):
    """Books with others of their size, over all primes and unlike ones, some without rows, some equal."""
    chance = chance_of(seed)
    for prime in PRIMES:
        for _ in range(many):
            size = chance.randint(1, most_size)
            one = some_book(chance, prime, size, None, chance.randint(0, 1))
            others = [some_book(chance, chance.choice(PRIMES), size, None, chance.randint(0, 2))
                      for _ in range(chance.randint(0, most_others))]
            if others and chance.random() < 0.3:
                others[-1] = others[0]
            yield one, tuple(others), chance


class Together(unittest.TestCase):
    def check(self, one, others, most=None):
        lots, cut, size = joint_lots(one, others), joint_cut(one, others), joint_size(one, others)
        self.assertIs(lots.__class__, tuple)
        self.assertEqual(len(lots), len(others))
        places = sorted(place for lot in lots for place in lot)
        self.assertEqual(places, sorted(set(places)))
        for lot, other in zip(lots, others):
            self.assertTrue(is_lot(one[1], lot) and is_free(other, lot))
        self.assertTrue(is_free(one, tuple(places)))
        self.assertEqual(shown(size), shown(len(places)))
        self.assertTrue(is_lot(one[1], cut))
        ranks = rank_on(one, rest_of(one[1], cut)) + sum(rank_on(other, cut) for other in others)
        self.assertEqual(ranks, size)
        self.assertEqual(shown(lets_joint(one, others, ("joint", lots, cut))), shown(size))
        if most is not None:
            self.assertEqual(size, most)

    def test_held_against_all_ways_to_deal_places_out(self):
        for one, others, _ in some_calls(41, 4, 3, 12):
            self.check(one, others, deals_by_hand(one, others))

    def test_up_to_eight_places_and_others(self):
        for one, others, _ in some_calls(42, 8, 8, 3):
            self.check(one, others)

    def test_no_others_eight_of_them_and_equal_ones(self):
        for one, _, _ in some_calls(43, 8, 0, 2):
            self.assertEqual(shown([joint_lots(one, ()), joint_size(one, ())]), "[(), 0]")
            self.check(one, (), 0)
            level = (2, one[1], ((1,) * one[1],))
            self.check(one, (level,) * 8, len(one[2]))
            self.check(one, (one,) * 8, len(one[2]))
        self.check(ALL, ((5, 8, ((1,) * 8,)),) * 8, 8)
        self.check(ALL, (ALL,) * 8, 8)
        self.check(ALL, ((5, 8, ()),) * 8, 0)
        self.check(ALL, ((5, 8, ((1, 1, 0, 0, 0, 0, 0, 0),)),) * 8, 2)

    def test_one_place_and_no_rows(self):
        self.check((2, 1, ()), ((3, 1, ((1,),)),), 0)
        self.check((2, 1, ((1,),)), ((3, 1, ()), (5, 1, ((1,),))), 1)
        self.check((2, 1, ((1,),)), ((3, 1, ()), (5, 1, ())), 0)

    def test_others_that_are_none(self):
        odd = (*ODD, 5, KEEP, [HIDE], (HIDE, None), (HIDE, (5, 3, ())), (HIDE, (5, 5, ())), (HIDE, list(KEEP)),
               (HIDE, (5, 4, ((2, 0, 0, 0),))), (HIDE,) * 9, (HIDE,) * 12, ((5, True, ()),))
        for others in odd:
            for call in (joint_lots, joint_size, joint_cut):
                self.assertEqual(raised(call, KEEP, others), not_usable("others"))
            for thing in (None, ("joint", (), ())):
                self.assertEqual(raised(lets_joint, KEEP, others, thing), not_usable("others"))
        self.assertEqual(joint_size(KEEP, (HIDE,) * 8), 2)


class Papers(unittest.TestCase):
    OTHERS = (HIDE, PAIRS)

    def refused(self, thing, word, at=-1):
        self.assertEqual(raised(lets_joint, KEEP, self.OTHERS, thing), invalid(word, at))

    def test_shape(self):
        whole = ("joint", ((3,), (1,)), ())
        for thing in (*ODD, 5, "joint", list(whole), whole[:2], whole + ((),), ("common", whole[1], ()), (1, whole[1], ()),
                      ("joint", [(3,), (1,)], ()), ("joint", None, ()), ("joint", (), ()), ("joint", ((3,),), ()),
                      ("joint", ((3,), (1,), ()), ()), (True, whole[1], ()), ("joint", "31", ())):
            self.refused(thing, "shape")
        self.assertEqual(raised(lets_joint, KEEP, (), ("joint", ((),), (0, 1, 2, 3))), invalid("shape"))
        self.assertEqual(lets_joint(KEEP, (), ("joint", (), (0, 1, 2, 3))), 0)

    def test_elements_one_after_the_other(self):
        for lot in (None, 3, "0", [0], (3, 0), (0, 0), (4,), (True,), (-1,), ((0,),)):
            self.refused(("joint", (lot, None), None), "lot", 0)
            self.refused(("joint", ((3,), lot), None), "lot", 1)
        self.refused(("joint", ((3,), (3,)), None), "apart", 1)
        self.refused(("joint", ((3,), (0, 1, 3)), None), "apart", 1)
        self.refused(("joint", ((0, 1), (0,)), None), "free", 0)
        self.refused(("joint", ((0, 1), None), None), "free", 0)
        self.refused(("joint", ((3,), (0, 1)), None), "free", 1)
        self.refused(("joint", ((), (2, 3)), None), "free", 1)

    def test_one_cut_and_more(self):
        for cut in (None, ()):
            self.refused(("joint", ((3,), (0, 2)), cut), "one")
            self.refused(("joint", ((1,), (0, 3)), cut), "one")
        for cut in (None, 3, "-", [0], (3, 0), (0, 0), (4,), (True,), (-1,)):
            self.refused(("joint", ((3,), (1,)), cut), "cut")
            self.refused(("joint", ((), ()), cut), "cut")
        self.refused(("joint", ((), ()), ()), "more")
        self.refused(("joint", ((3,), ()), ()), "more")
        self.refused(("joint", ((3,), (1,)), (0, 1, 2, 3)), "more")
        self.refused(("joint", ((3,), (1,)), (0,)), "more")
        self.assertEqual(lets_joint(KEEP, self.OTHERS, ("joint", ((3,), (1,)), ())), 2)
        self.assertEqual(lets_joint(KEEP, self.OTHERS, ("joint", ((), (0, 3)), ())), 2)

    def test_accepted_papers_tell_the_greatest_number(self):
        for one, others, chance in some_calls(44, 4, 2, 6):
            lots = lots_below(one[1])
            most = joint_size(one, others)
            for _ in range(60):
                paper = ("joint", tuple(chance.choice(lots) for _ in others), chance.choice(lots))
                told = raised(lets_joint, one, others, paper)
                if told[0] == "no error but":
                    self.assertEqual(told[1], most)


class Consequences(unittest.TestCase):
    """[33], at many inputs."""

    def test_no_lots_sum_of_ranks_is_below(self):
        for one, others, _ in some_calls(45, 6, 4):
            size = joint_size(one, others)
            sums = [rank_on(one, rest_of(one[1], lot)) + sum(rank_on(other, lot) for other in others)
                    for lot in lots_below(one[1])]
            self.assertEqual(min(sums), size)

    def test_with_one_other_book_it_is_the_size_of_a_common_lot(self):
        for one, others, _ in some_calls(46, 8, 3):
            for other in others:
                self.assertEqual(joint_size(one, (other,)), len(common_lot(one, other)))

    def test_it_does_not_hang_on_the_order(self):
        for one, others, chance in some_calls(47, 7, 5):
            mixed = tuple(chance.sample(others, len(others)))
            self.assertEqual(joint_size(one, mixed), joint_size(one, others))
            self.assertEqual(joint_size(one, others[::-1]), joint_size(one, others))

    def test_with_a_book_more_it_is_never_less(self):
        for one, others, _ in some_calls(48, 7, 5):
            sizes = [joint_size(one, others[:many]) for many in range(len(others) + 1)]
            self.assertEqual(sizes, sorted(sizes))

    def test_of_one_book_again_and_again_it_grows_less_and_less(self):
        for one, others, _ in some_calls(49, 8, 1):
            for other in others:
                sizes = [joint_size(one, (other,) * many) for many in range(9)]
                steps = [right - left for left, right in zip(sizes, sizes[1:])]
                self.assertEqual(steps, sorted(steps, reverse=True))
                self.assertGreaterEqual(min(steps), 0)

    def test_as_many_of_one_book_as_one_has_rows(self):
        for one, others, _ in some_calls(50, 8, 1):
            for other in others:
                seen = [any(row[place] for row in other[2]) for place in range(one[1])]
                some = any(all(seen[place] for place in base) for base in bases_of(one))
                self.assertEqual(joint_size(one, (other,) * len(one[2])) == len(one[2]), some)


if __name__ == "__main__":
    unittest.main()
