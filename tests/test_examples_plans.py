"""The document's examples: marks seen, asks and plans as objects, who reads, words by answers, and liars."""

import unittest

from tests.helper import HEAD, run_examples

# The names that examples of stages before made.
ASKED = r"""
>>> COVERS = (((3, 3, 3, 3),), ((4, 4, 4, 4),))
>>> ASK = ((1, 0), (1, 1, 0, 0))
"""

PLANS = r"""
>>> ONE, ONES = ((1, 1, 0, 0),), ((1, 0, 0, 0), (0, 1, 0, 0), (0, 0, 1, 0))
"""

SEEN = r"""
>>> from starshelves.plansseen import plan_learns, twice_seen
>>> [plan_learns(HALL, ((1, 1, 0, 0), (0, 0, 1, 1)), (0, 1)), twice_seen(HALL, (1, 1, 0, 0), (2, 2, 0, 0), (0,)), twice_seen(HALL, (1, 1, 0, 0), (2, 2, 0, 0), (2, 3))]
[False, True, False]
>>> from starshelves.asks import Ask, Plain
>>> it = Ask(HALL, STOCK, ASK, COVERS)
>>> [it[0], it(0), str(it), ((3,), (4,)) in it, it.answers((1, 2)), it.learned_by((0, 2)), str(Plain(HALL, STOCK, ASK))]
[((3,), (0,)), 3, '3 1 2 0', True, ((1, 1), (2, 2)), True, '2 2 0 0']
"""

STAGE_13 = r"""
>>> from starshelves.reading import blind_book, read_numbers, reads, told_rank, told_sums
>>> ONE, ONES = ((1, 1, 0, 0),), ((1, 0, 0, 0), (0, 1, 0, 0), (0, 0, 1, 0))
>>> [reads(HALL, ONE, ((),)), reads(HALL, ONE, ((3,),)), reads(HALL, ((2, 2, 2, 2),), ((),)), reads(HALL, ONES, ((0,), (0,), (0,)))]
[True, False, False, True]
>>> [blind_book(HALL, ONE, ((3,),)), told_rank(HALL, ONE, ((3,),)), told_sums(HALL, ONE, ((3,),))]
[(5, 4, ((1, 3, 0, 2),)), 1, (5, 2, ((1, 3),))]
>>> read_numbers(HALL, ONE, ((),))
(((1, 0, 2, 2),), ((0, 1, 3, 1),))
>>> from starshelves.readchecker import lets_read
>>> [lets_read(HALL, ONE, ((),), ('read', read_numbers(HALL, ONE, ((),)))), lets_read(HALL, ONE, ((3,),), ('blind', (1, 3, 0, 2), ((4, 2, 0, 3),)))]
[True, False]
"""

STAGE_14 = r"""
>>> from starshelves.answered import explaining, told_sum, word_of
>>> from starshelves.someplans import some_plan_reads
>>> FOUR, THREE = (((0, 3), (1, 1), (2, 2), (3, 0)),), (((0, 3), (1, 1), (2, 2)),)
>>> [word_of(HALL, ONE, FOUR), list(explaining(HALL, ONE, THREE, 0))[:3], told_sum(HALL, ONE, THREE, (1, 3))]
[(2, 2, 2, 2), [(0, 1, 2, 3), (1, 4, 2, 0), (2, 2, 2, 2)], 3]
>>> [some_plan_reads(HALL, HIDE, ()), some_plan_reads(HALL, (5, 4, ONES[:2]), (3,))]
[False, True]
"""

STAGE_15 = r"""
>>> from starshelves.answered import liars_by, sure_word
>>> from starshelves.lying import bears, most_liars, sure_sums
>>> NONE = ((), (), ())
>>> [bears(HALL, ONES, NONE, 1), most_liars(HALL, ONES, NONE), most_liars(HALL, ONE, ((3,),)), sure_sums(HALL, ONES, NONE, 2)]
[True, 1, None, (5, 2, ())]
>>> LIED = (((0, 2), (1, 0), (2, 0), (3, 0)), ((0, 0), (1, 3), (2, 0), (3, 0)), ((0, 0), (1, 0), (2, 2), (3, 0)))
>>> [list(explaining(HALL, ONES, LIED, 0)), liars_by(HALL, ONES, LIED, (2, 2, 2, 2))]
[[], ((1,),)]
>>> sure_word(HALL, ONES, LIED, 1)
raises Torn(ways=((2, 2, 2, 2), (2, 3, 4, 0), (4, 3, 2, 1)))
>>> from starshelves.plans import Plan, Units
>>> one = Units(HALL, (0,), (1,))
>>> [one.marks_now == ONES[:2], one((3,)), one.told((0,)), one.borne((3,)), (one + Plan(HALL, ONES[2])) == Plan(HALL, *ONES)]
[True, True, 1, 0, True]
"""


class Examples(unittest.TestCase):
    """Each line below an example is exactly what it gives, or the error it raises."""

    def test_marks_seen_and_asks_as_objects(self):
        run_examples(self, HEAD + ASKED + SEEN)

    def test_stage_13(self):
        run_examples(self, HEAD + STAGE_13)

    def test_stage_14(self):
        run_examples(self, HEAD + PLANS + STAGE_14)

    def test_stage_15(self):
        run_examples(self, HEAD + PLANS + STAGE_14 + STAGE_15)


if __name__ == "__main__":
    unittest.main()
