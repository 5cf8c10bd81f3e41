"""The document's examples: lots common and put together, halls, stocks and shelves that are lost."""

import unittest

from tests.helper import HEAD, run_examples

STAGE_5 = r"""
>>> from starshelves.commonchecker import lets_common
>>> from starshelves.commonlots import cheapest_common, common_cut, common_lot
>>> TURNED = (5, 4, ((1, 0, 1, 0), (0, 1, 0, 1)))
>>> [len(common_lot(PAIRS, TURNED)), len(common_lot(KEEP, HIDE)), common_cut(KEEP, HIDE), cheapest_common(PAIRS, TURNED, (5, 1, 1, 5), 2), cheapest_common(PAIRS, TURNED, (5, 1, 1, 5), 3)]
[2, 1, (0, 1, 2, 3), (1, 2), None]
>>> [lets_common(PAIRS, TURNED, ('common', (0, 3), ())), lets_common(KEEP, HIDE, ('common', (2,), (0, 1, 2, 3)))]
[2, 1]
>>> lets_common(PAIRS, TURNED, ('common', (0,), ()))
raises InvalidPaper(word='more', at=-1)
>>> from starshelves.jointchecker import lets_joint
>>> from starshelves.joinedlots import joint_cut, joint_lots, joint_size
>>> [[joint_size(KEEP, (HIDE,) * many) for many in range(4)], joint_cut(KEEP, (HIDE,)), joint_lots(KEEP, ()), joint_size(KEEP, (HIDE, PAIRS))]
[[0, 1, 2, 2], (0, 1, 2, 3), (), 2]
>>> lets_joint(KEEP, (HIDE, HIDE), ('joint', ((3,), (1,)), ()))
2
>>> lets_joint(KEEP, (HIDE, HIDE), ('joint', ((3,), (1, 2)), ()))
raises InvalidPaper(word='free', at=1)
"""

STAGE_6 = r"""
>>> from starshelves.frees import Free
>>> free = Free(PAIRS)
>>> [free((0, 1, 2)), (0, 2) in free, (0, 1) in free, [0, 2] in free, len(free), list(free)[0], len(free & Free(TURNED))]
[2, True, False, False, 2, (0, 2), 2]
>>> [free.dual() == free, free.without((0,)).book_now, free.beside((0,)).book_now, Free(KEEP) == Free.of(7, 4, ((1, 0, 1, 1), (0, 1, 1, 2)))]
[True, (5, 3, ((1, 0, 0), (0, 1, 2))), (5, 3, ((0, 1, 2),)), True]
>>> free | PAIRS
raises NotUsable(word='other', at=-1)
"""

STAGE_7 = r"""
>>> from starshelves.hallchecker import lets_hall
>>> from starshelves.stockkinds import is_file, is_slot, is_stock
>>> from starshelves.stocks import shelf_of, shelves_of, slots_of, stock_from
>>> [lets_hall(HALL), is_file(HALL, ((1, 2, 3, 4), (0, 0, 0, 0))), is_stock(HALL, (((1, 2, 3, 0),),)), is_slot(STOCK, (1, 0)), is_slot(STOCK, (0, 1))]
[True, True, False, True, False]
>>> [shelf_of(HALL, STOCK, 3), slots_of(HALL, STOCK), stock_from(HALL, shelves_of(HALL, STOCK)) == STOCK]
[((4,), (2,)), ((0, 0), (1, 0)), True]
>>> lets_hall((KEEP, (5, 3, ())))
raises InvalidPaper(word='like', at=-1)
"""

STAGE_8 = r"""
>>> from starshelves.mending import can_mend, cheapest_menders, distance_of, least_losses, mended, menders_of
>>> [can_mend(HALL, (0, 1)), can_mend(HALL, (0, 1, 2)), menders_of(HALL, 0), least_losses(HALL)[:2], distance_of(HALL), cheapest_menders(HALL, 0, (0, 1, 7, 2))]
[True, False, ((1, 2), (1, 3), (2, 3)), ((0, 1, 2), (0, 1, 3)), 3, (1, 3)]
>>> mended(HALL, ((0, ((1,), (2,))), (3, ((4,), (2,))))) == STOCK
True
>>> mended(HALL, ((2, ((3,), (2,))),))
raises Lost(within=(1, 3, 0, 2))
>>> mended(HALL, ((0, ((1,),)), (1, ((2,),)), (2, ((4,),))))
raises Torn(ways=())
>>> from starshelves.mendchecker import lets_mend
>>> from starshelves.mendpapers import mend_paper
>>> [lets_mend(HALL, (0, 1), ('mends', ((1, 0, 2, 2), (0, 1, 3, 1)))), lets_mend(HALL, (0, 1, 3), ('lost', (2, 1, 0, 4))), mend_paper(HALL, (1, 2, 3))[0]]
[True, False, 'lost']
>>> lets_mend(HALL, (0, 1), ('mends', ((1, 0, 2, 2), (1, 1, 0, 3))))
raises InvalidPaper(word='place', at=1)
"""


class Examples(unittest.TestCase):
    """Each line below an example is exactly what it gives, or the error it raises."""

    def test_stage_5(self):
        run_examples(self, HEAD + STAGE_5)

    def test_stage_6(self):
        run_examples(self, HEAD + STAGE_6)

    def test_stage_7(self):
        run_examples(self, HEAD + STAGE_7)

    def test_stage_8(self):
        run_examples(self, HEAD + STAGE_8)


if __name__ == "__main__":
    unittest.main()
