"""[44]: papers on whether a lot can be lost."""

import unittest

from starshelves.books import checks_of
from starshelves.mendchecker import lets_mend
from starshelves.mending import can_mend
from starshelves.mendpapers import mend_paper
from tests.helper import (
    HALL, NO_LOTS, check_refused, dot, lies_within, lots_below, rank_by_hand, shown, small_halls, some_halls, sums_by_hand,
    words_by_hand,
)


class Papers(unittest.TestCase):
    def check(self, hall, lot):
        """Any paper is right that is as [44] tells; the judge accepts it."""
        paper, (prime, _, rows) = mend_paper(hall, lot), hall[0]
        self.assertIsInstance(paper, tuple)
        self.assertEqual(len(paper), 2)
        self.assertIs(lets_mend(hall, lot, paper), can_mend(hall, lot))
        if paper[0] == "mends":
            self.assertIsInstance(paper[1], tuple)
            self.assertEqual(len(paper[1]), len(lot))
            for k, check in enumerate(paper[1]):
                self.assertEqual(shown(tuple(check[place] for place in lot)), shown(tuple(int(j == k) for j in range(len(lot)))))
                self.assertFalse(any(dot(prime, check, row) for row in rows))
        else:
            self.assertEqual(paper[0], "lost")
            self.assertTrue(any(paper[1]) and lies_within(paper[1], lot))
        return paper

    def test_all_lots_of_small_halls(self):
        for hall, _ in small_halls(101):
            words = words_by_hand(hall[0])
            for lot in lots_below(hall[0][1]):
                paper = self.check(hall, lot)
                inner = [one for one in words if any(one) and lies_within(one, lot)]
                self.assertEqual(paper[0], "lost" if inner else "mends")
                if inner:
                    self.assertIn(paper[1], inner)

    def test_lots_of_up_to_eight_shelves(self):
        for hall, _ in some_halls(102):
            for lot in lots_below(hall[0][1])[::5]:
                self.check(hall, lot)

    def test_the_lot_without_shelves_and_that_of_all(self):
        for hall, _ in small_halls(103):
            self.assertEqual(mend_paper(hall, ()), ("mends", ()))
            self.assertEqual(mend_paper(hall, tuple(range(hall[0][1])))[0], "lost")

    def test_a_shelf_that_is_0_in_all_words(self):
        hall = ((3, 3, ((1, 0, 2),)), (3, 3, ()))
        self.assertEqual(self.check(hall, (1,))[0], "mends")
        self.assertEqual(self.check(hall, (0, 1))[0], "mends")
        self.assertIn(self.check(hall, (0, 1, 2)), (("lost", (1, 0, 2)), ("lost", (2, 0, 1))))

    def test_just_one_kind_of_paper_can_be(self):
        for hall, _ in small_halls(104):
            checks = checks_of(hall[0])
            for lot in lots_below(hall[0][1])[:6]:
                cut = [tuple(row[place] for place in lot) for row in checks[2]]
                told = rank_by_hand(hall[0][0], sums_by_hand(hall[0][0], len(lot), cut)) == len(lot)
                self.assertEqual(mend_paper(hall, lot)[0] == "mends", told)

    def test_wrong_lots(self):
        check_refused(self, mend_paper, (HALL,), {"lot": (0, 1)}, {"lot": NO_LOTS})


if __name__ == "__main__":
    unittest.main()
