"""The document's examples: shelves that lie, halls as objects, letters, who learns, and marks that nobody sees."""

import unittest

from tests.helper import HEAD, run_examples

STAGE_9 = r"""
>>> from starshelves.clearing import cleared, clears, liars_in, most_borne
>>> [most_borne(HALL, ()), most_borne(HALL, (3,)), most_borne(HALL, (0, 1, 2)), clears(HALL, (), 2)]
[1, 0, None, False]
>>> SPOILT = ((0, ((1,), (2,))), (1, ((2,), (0,))), (2, ((3,), (2,))), (3, ((4,), (2,))))
>>> [cleared(HALL, SPOILT, 1) == STOCK, liars_in(HALL, SPOILT, 1)]
[True, (1,)]
>>> cleared(HALL, SPOILT, 0)
raises Torn(ways=())
>>> from starshelves.hallclasses import Hall
>>> one = Hall(KEEP, HIDE)
>>> [one((2, 3)), one[3], (3, 0, 2, 4) in one, len(one), one.star_now == KEEP, one.distance(), one.exchanged().distance(), one == Hall.of(HALL)]
[True, ((0, 1), (0, 2), (1, 2)), True, 2, True, 3, 4, True]
"""

STAGE_10 = r"""
>>> from starshelves.asking import answer_of, answers_of, letters_of
>>> from starshelves.covering import are_covers, plain_covers
>>> COVERS = (((3, 3, 3, 3),), ((4, 4, 4, 4),))
>>> ASK = ((1, 0), (1, 1, 0, 0))
>>> [are_covers(HALL, STOCK, COVERS), are_covers(HALL, STOCK, STOCK), plain_covers(HALL, STOCK)]
[True, False, (((0, 0, 0, 0),), ((0, 0, 0, 0),))]
>>> letters_of(HALL, STOCK, ASK, COVERS)
(((3,), (0,)), ((3,), (0,)), ((3,), (4,)), ((3,), (4,)))
>>> [answer_of(HALL, STOCK, 2, ((3,), (4,))), answers_of(HALL, STOCK, ASK, COVERS, (0, 1, 3))]
[2, ((0, 3), (1, 1), (3, 0))]
>>> letters_of(HALL, STOCK, ((2, 0), (1, 1, 0, 0)), COVERS)
raises NotUsable(word='ask', at=-1)
"""

STAGE_11 = r"""
>>> from starshelves.seeing import blind_lots, learning_lots, learns, like_of, tell_of
>>> [learns(HALL, (1, 1, 0, 0), (0, 1)), learns(HALL, (1, 1, 0, 0), (0, 2)), like_of(HALL, (1, 1, 0, 0), (0, 1)), like_of(HALL, (1, 1, 0, 0), (0, 2))]
[False, True, (1, 1, 1, 1), None]
>>> [tell_of(HALL, (1, 1, 0, 0), (0, 2)), tell_of(HALL, (2, 2, 2, 2), (0, 2)), learning_lots(HALL, (1, 1, 0, 0)), blind_lots(HALL, (1, 1, 0, 0))]
[(1, 0, 4, 0), None, ((0, 2), (0, 3), (1, 2), (1, 3)), ((0, 1), (2, 3))]
>>> from starshelves.seechecker import lets_see
>>> from starshelves.seepapers import see_paper
>>> [lets_see(HALL, (1, 1, 0, 0), (0, 1), ('like', (1, 1, 1, 1))), lets_see(HALL, (1, 1, 0, 0), (0, 2), see_paper(HALL, (1, 1, 0, 0), (0, 2)))]
[False, True]
>>> lets_see(HALL, (1, 1, 0, 0), (0, 2), ('like', (1, 1, 1, 1)))
raises InvalidPaper(word='digit', at=2)
"""

HIDDEN = r"""
>>> from starshelves.hidden import hidden_marks, hides_all, sight_count, sights_at
>>> [hidden_marks(HALL, ((0,), (1, 2))), hides_all(HALL, ((0,), (1,), (2,), (3,)))]
[(5, 4, ((1, 0, 0, 0), (0, 1, 1, 0), (0, 0, 0, 1))), True]
>>> [sight_count(HALL, (0, 2)), sights_at(HALL, (1, 1, 0, 0), (0, 2))]
[5, ((0, 4), (1, 0), (2, 1), (3, 2), (4, 3))]
"""


class Examples(unittest.TestCase):
    """Each line below an example is exactly what it gives, or the error it raises."""

    def test_stage_9(self):
        run_examples(self, HEAD + STAGE_9)

    def test_stage_10(self):
        run_examples(self, HEAD + STAGE_10)

    def test_stage_11(self):
        run_examples(self, HEAD + STAGE_11)

    def test_marks_that_nobody_sees(self):
        run_examples(self, HEAD + HIDDEN)


if __name__ == "__main__":
    unittest.main()
