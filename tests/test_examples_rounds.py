"""The document's examples: papers on rounds, worn halls and prices, halls of points, sums and writes."""

import unittest

from tests.helper import HEAD, run_examples

STAGE_16 = r"""
>>> from starshelves.rounds import best_lots, cut_ratio, least_rounds, most_told, rest_book, rounds_cut, unit_marks
>>> [least_rounds(HALL, silent) for silent in ((), (0,), (0, 1))]
[1, 2, None]
>>> LEFT = (5, 4, ((1, 0, 4, 3),))
>>> [least_rounds(HALL, (0,), LEFT), least_rounds(HALL, (0,), (5, 4, ())), rest_book(HALL, (0,)), [most_told(HALL, (0,), many) for many in (0, 1, 2, 3)]]
[1, 0, (5, 4, ((0, 1, 3, 1),)), [0, 1, 2, 2]]
>>> [cut_ratio(HALL, (0,), (1, 2, 3)), rounds_cut(HALL, (0,), 1), rounds_cut(HALL, (0,), 2), best_lots(HALL, (0, 1)), unit_marks(4, ((1,), (0, 3)))]
[(1, 1), (0, 1, 2, 3), None, None, ((0, 1, 0, 0), (1, 0, 0, 1))]
>>> from starshelves.roundschecker import lets_rounds
>>> [lets_rounds(HALL, (0,), ('rounds', ((1,), (2,)), (0, 1, 2, 3))), lets_rounds(HALL, (0, 1), ('never', (0, 1, 2, 3)))]
[2, None]
>>> lets_rounds(HALL, (0,), ('rounds', ((1, 2),), (0, 1, 2, 3)))
raises InvalidPaper(word='free', at=0)
"""

STAGE_17 = r"""
>>> from starshelves.prices import cheapest_lots, least_price
>>> from starshelves.worn import hidden_depth, is_bound_met, points_bound, rounds_bound
>>> [[rounds_bound(HALL, (), wear) for wear in (0, 1, 2)], is_bound_met(HALL, (), 1), hidden_depth(HALL), points_bound(HALL, (), 1), points_bound(HALL, (0,), 1)]
[[1, 2, None], True, 1, 2, None]
>>> [cheapest_lots(HALL, (), 1, (9, 1, 1, 4)), cheapest_lots(HALL, (0,), 1, (1, 1, 1, 1)), least_price(HALL, (0,), 2, (0, 5, 7, 6))]
[((1, 2),), None, 11]
"""

STAGE_18 = r"""
>>> from starshelves.pointhalls import points_hall, points_plan, points_rounds
>>> [points_hall(5, (1, 2, 3, 4), 2, 1) == HALL, points_rounds(5, (0, 1, 2, 3, 4), 2, 1, 0, 1), points_plan(5, (0, 1, 2, 3, 4), 2, 1, 0, 1), points_rounds(5, (1, 2), 2, 1, 0, 0)]
[True, 2, ((0, 1, 2, 3, 4), (0, 1, 4, 4, 1)), None]
"""

STAGE_19 = r"""
>>> from starshelves.sums import total_by, total_of, weighed_letters
>>> [total_of(HALL, STOCK, ((1,), (2,))), total_by(HALL, ((0, 0), (3, 3))), weighed_letters(HALL, (((3, 3, 3, 3),), ((4, 4, 4, 4),)), ((1,), (2,)), (1, 1, 0, 0))[1:3]]
[(0, 1, 2, 3), (0, 1, 2, 3), (((4,), (1,)), ((3,), (4,)))]
>>> total_by(HALL, ((2, 1),))
raises Lost(within=(1, 3, 0, 2))
>>> from starshelves.writes import changed, least_touch, partly, touched
>>> LATE = changed(HALL, STOCK, (1, 0), (0, 1, 2, 3))
>>> [LATE, touched(HALL, STOCK, LATE), partly(HALL, STOCK, (1, 0), (0, 1, 2, 3), (0, 1)), least_touch(HALL)]
[(((1, 2, 3, 4),), ((0, 1, 2, 3),)), (0, 1, 3), (0, 1, 2, 2), (0, 1, 2, 3)]
>>> from starshelves.drafts import Draft
>>> one = Draft(HALL, STOCK)
>>> one[(1, 0)] = (0, 1, 2, 3)
>>> [one[(1, 0)], one(2), len(one), one == Draft(HALL, LATE), one.back(), (2, 2, 2, 2) in one, len(one)]
[(0, 1, 2, 3), (3, 2), 1, True, (1, 0), True, 0]
"""


class Examples(unittest.TestCase):
    """Each line below an example is exactly what it gives, or the error it raises."""

    def test_stage_16(self):
        run_examples(self, HEAD + STAGE_16)

    def test_stage_17(self):
        run_examples(self, HEAD + STAGE_17)

    def test_stage_18(self):
        run_examples(self, HEAD + STAGE_18)

    def test_stage_19(self):
        run_examples(self, HEAD + STAGE_19)


if __name__ == "__main__":
    unittest.main()
