"""[85], [86]: sums of rows in place of one row."""

import unittest

from starshelves.answered import word_of
from starshelves.asking import answer_of, letters_of
from starshelves.mending import can_mend
from starshelves.rounds import best_lots, unit_marks
from starshelves.sums import total_by, total_of, weighed_letters
from tests.helper import (
    HALL, KEEP, LONG, NO_STOCKS, NO_WORDS, ODD, STOCK, check_refused, great_left, lies_within, lots_below, not_usable, plus, raised, rest_of,
    shown, some_covers, some_halls, some_lot, some_slot, some_stock, some_word, some_word_in, tiny_halls, words_by_hand,
)

COVERS = (((3, 3, 3, 3),), ((4, 4, 4, 4),))
WEIGHTS = ((1,), (2,))
NO_WEIGHTS = (
    *[thing for thing in ODD if thing != ((1,), (0,))], 5, (), ((1,),), ((1,), (2,), (3,)), [(1,), (2,)], ([1], (2,)), ((1,), ()), ((1,), (2, 3)),
    ((5,), (0,)), ((1,), (True,)), ((1,), (-1,)), ((1,), None), (1, 2), ((1,), ("2",)), (((1,),), ((2,),)), ((1,), (LONG,)),
)
NO_COVERS = (
    *ODD, 5, (), ((),), (((3, 3, 3, 3),), ()), [((3, 3, 3, 3),)], ([(3, 3, 3, 3)],), ((3, 3, 3, 3),), (((3, 3, 3),),), (((3, 3, 3, 4),),),
    (((3, 3, 3, 3), (1, 2, 3, 4)),), (((3, 3, 3, 3),), ((1, 1, 1, True),)), (((5, 5, 5, 5),),), (((1, 1, 1, 1),), None), STOCK,
)
NO_ANSWERS = (
    *ODD, 5, [(0, 1)], ([0, 1],), ((4, 1),), ((0, 5),), ((0, -1),), ((0, True),), ((True, 1),), ((1, 0), (0, 0)), ((0, 0), (0, 0)), ((0,),),
    ((0, 1, 2),), (0, 1), ((0, None),), ((0, (1,)),), "0 1", ((-1, 0),), (((0, 1),),), ((0, 0), None), ((LONG, 0),), ((0, LONG),),
)
REFUSED = {"stock": NO_STOCKS, "weights": NO_WEIGHTS, "covers": NO_COVERS, "mark": NO_WORDS, "answers": NO_ANSWERS}


def some_weights(chance, prime, stock):
    """Drawn weights, now and then noughts."""
    most = chance.choice((prime, prime, 1))
    return tuple(tuple(chance.randrange(most) for _ in file) for file in stock)


class Totals(unittest.TestCase):
    """total_of."""

    def test_the_sum_of_all_rows_times_their_weights(self):
        for hall, chance in some_halls(371, 6):
            stock = some_stock(chance, hall)
            weights = some_weights(chance, hall[0][0], stock)
            told = (0,) * hall[0][1]
            for file, own in zip(stock, weights):
                for row, weight in zip(file, own):
                    told = plus(hall[0][0], told, row, weight)
            self.assertEqual(shown(total_of(hall, stock, weights)), shown(told))
            if hall[0][0] ** len(hall[0][2]) < 1000:
                self.assertIn(told, words_by_hand(hall[0]))

    def test_weights_of_noughts_and_of_one_slot(self):
        for hall, chance in some_halls(372):
            stock = some_stock(chance, hall)
            at, row = some_slot(chance, stock)
            none = tuple(tuple(0 for _ in file) for file in stock)
            one = tuple(tuple(int((i, j) == (at, row)) for j in range(len(file))) for i, file in enumerate(stock))
            self.assertEqual(total_of(hall, stock, none), (0,) * hall[0][1])
            self.assertEqual(shown(total_of(hall, stock, one)), shown(stock[at][row]))

    def test_a_stock_of_one_slot_and_a_file_of_several_rows(self):
        self.assertEqual(total_of(HALL, (((1, 2, 3, 4),),), ((3,),)), (3, 1, 4, 2))
        self.assertEqual(total_of(HALL, (((1, 2, 3, 4), (1, 1, 1, 1), (0, 0, 0, 0)),), ((1, 4, 2),)), (0, 1, 2, 3))

    def test_wrong_values(self):
        check_refused(self, total_of, (HALL,), {"stock": STOCK, "weights": WEIGHTS}, REFUSED)
        several = (((1, 2, 3, 4), (2, 2, 2, 2)),)
        for wrong in (((1,),), ((1, 2, 3),), ((1,), (2,)), (1, 2), ((1, True),), ((1, 5),)):
            self.assertEqual(raised(total_of, HALL, several, wrong), not_usable("weights"))


class Letters(unittest.TestCase):
    """weighed_letters."""

    def test_each_digit(self):
        for hall, chance in some_halls(373, 6):
            prime, size, _ = hall[0]
            stock = some_stock(chance, hall)
            covers, weights, mark = some_covers(chance, hall, stock), some_weights(chance, prime, stock), some_word(chance, prime, size)
            told = tuple(
                tuple(
                    tuple((cover[shelf] + weight * mark[shelf]) % prime for cover, weight in zip(file, own))
                    for file, own in zip(covers, weights)
                ) for shelf in range(size)
            )
            self.assertEqual(shown(weighed_letters(hall, covers, weights, mark)), shown(told))

    def test_weights_of_one_slot_are_an_ask(self):
        for hall, chance in some_halls(374):
            stock = some_stock(chance, hall)
            covers, mark, (at, row) = some_covers(chance, hall, stock), some_word(chance, *hall[0][:2]), some_slot(chance, stock)
            one = tuple(tuple(int((i, j) == (at, row)) for j in range(len(file))) for i, file in enumerate(stock))
            self.assertEqual(weighed_letters(hall, covers, one, mark), letters_of(hall, stock, ((at, row), mark), covers))

    def test_wrong_values(self):
        given = {"covers": COVERS, "weights": WEIGHTS, "mark": (1, 1, 0, 0)}
        check_refused(self, weighed_letters, (HALL,), given, REFUSED)
        # Weights are for files of so many rows.
        for weights in (((1, 2),), ((1,), (2, 0)), ((1,), (2,), (0,))):
            self.assertEqual(raised(weighed_letters, HALL, COVERS, weights, None), not_usable("weights"))

    def test_a_hide_without_rows(self):
        hall = (KEEP, (5, 4, ()))
        self.assertEqual(weighed_letters(hall, (((0, 0, 0, 0),),), ((2,),), (1, 2, 3, 4)), (((2,),), ((4,),), ((1,),), ((3,),)))
        self.assertEqual(raised(weighed_letters, hall, COVERS, WEIGHTS, (1, 1, 0, 0)), not_usable("covers"))


class ByAnswers(unittest.TestCase):
    """total_by."""

    def test_all_answers_of_tiny_halls(self):
        seen = set()
        for hall, chance in tiny_halls(375, 130):
            prime, size, _ = hall[0]
            words = sorted(words_by_hand(hall[0]))
            for lot in lots_below(size):
                word = chance.choice(words)
                digits = [word[shelf] if chance.random() < 0.8 else chance.randrange(prime) for shelf in lot]
                answers = tuple(zip(lot, digits))
                told = self.told_by_hand(words, answers)
                self.assertEqual(shown(raised(total_by, hall, answers)), shown(told))
                seen.add(told[0])
        self.assertEqual(seen, {"Lost", "Torn", "no error but"})

    def told_by_hand(self, words, answers):
        """What total_by gives, by going through all words of keep."""
        unseen = [word for word in words if any(word) and not any(word[shelf] for shelf, _ in answers)]
        if unseen:
            return "Lost", {"within": unseen[0]}
        fitting = [word for word in words if all(word[shelf] == digit for shelf, digit in answers)]
        return ("no error but", fitting[0]) if fitting else ("Torn", {"ways": ()})

    def test_of_no_shelf(self):
        for hall, _ in some_halls(376):
            self.assertEqual(raised(total_by, hall, ()), ("Lost", {"within": hall[0][2][-1]}))

    def test_great_halls(self):
        for hall, chance in some_halls(377, 6):
            word, heard = some_word_in(chance, hall[0]), some_lot(chance, hall[0][1])
            name, told = raised(total_by, hall, tuple((shelf, word[shelf]) for shelf in heard))
            if can_mend(hall, rest_of(hall[0][1], heard)):
                self.assertEqual([name, told], ["no error but", word])
            else:
                self.assertEqual(name, "Lost")
                self.assertTrue(lies_within(told["within"], rest_of(hall[0][1], heard)))

    def test_torn_comes_behind_lost(self):
        self.assertEqual(raised(total_by, HALL, ((0, 1), (1, 1), (2, 2))), ("Torn", {"ways": ()}))
        dead = ((5, 4, ((1, 0, 4, 0), (0, 1, 2, 0))), HALL[1])
        self.assertEqual(raised(total_by, dead, ((0, 1), (3, 1))), ("Lost", {"within": (0, 1, 2, 0)}))
        self.assertEqual(raised(total_by, dead, ((0, 1), (1, 0), (3, 1))), ("Torn", {"ways": ()}))
        self.assertEqual(total_by(dead, ((0, 1), (1, 0), (3, 0))), (1, 0, 4, 0))

    def test_wrong_values(self):
        check_refused(self, total_by, (HALL,), {"answers": ((0, 0), (3, 3))}, REFUSED)
        self.assertEqual(raised(total_by, HALL, ((9, 1),)), not_usable("answers"))


class Consequences(unittest.TestCase):
    """A plan that reads, sent with weights, tells the total in place of one row."""

    def test_word_of_the_answers_to_weighed_letters_is_the_total(self):
        counted = 0
        for hall, silent, _, chance in great_left(378, 6):
            lots = best_lots(hall, silent)
            if lots is None:
                continue
            plan, stock = unit_marks(hall[0][1], lots), some_stock(chance, hall)
            weights, answers = some_weights(chance, hall[0][0], stock), []
            for mark in plan:
                letters = weighed_letters(hall, some_covers(chance, hall, stock), weights, mark)
                answers.append(tuple((shelf, answer_of(hall, stock, shelf, letters[shelf])) for shelf in rest_of(hall[0][1], silent)))
            self.assertEqual(word_of(hall, plan, tuple(answers)), total_of(hall, stock, weights))
            counted += 1
        self.assertGreater(counted, 20)

    def test_plain_covers_and_a_mark_of_ones_bring_the_digits_of_the_total(self):
        for hall, chance in some_halls(379):
            prime, size, _ = hall[0]
            stock = some_stock(chance, hall)
            weights, ones = some_weights(chance, prime, stock), (1,) * size
            letters = weighed_letters(hall, tuple(tuple((0,) * size for _ in file) for file in stock), weights, ones)
            answers = tuple((shelf, answer_of(hall, stock, shelf, letters[shelf])) for shelf in range(size))
            self.assertEqual(total_by(hall, answers), total_of(hall, stock, weights))


if __name__ == "__main__":
    unittest.main()
