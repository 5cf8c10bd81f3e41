"""[49] to [52]: covers, letters and answers."""

import itertools
import unittest

from starshelves.asking import answer_of, answers_of, letters_of
from starshelves.books import star_of
from starshelves.covering import are_covers, plain_covers
from tests.helper import (
    HALL, HIDE, KEEP, LONG, NO_LOTS, NO_SHELVES, NO_STOCKS, NO_WORDS, ODD, STOCK, all_words, check_refused, plus,
    rank_of_rows, shown, some_covers, some_halls, some_lot, some_slot, some_stock, some_word, tiny_halls, words_by_hand,
)

MARK = (1, 1, 0, 0)
COVERS = (((3, 3, 3, 3),), ((4, 4, 4, 4),))
ASK = ((1, 0), MARK)
NO_COVERS = (
    *ODD, 5, (), STOCK, list(COVERS), COVERS[:1], COVERS + COVERS[:1], (COVERS[0], list(COVERS[1])), (COVERS[0], None),
    (COVERS[0], ()), (COVERS[0], COVERS[1] * 2), (COVERS[0], ([4, 4, 4, 4],)), (COVERS[0], ((4, 4, 4, 3),)), (COVERS[0], ((4, 4, 4),)),
    (COVERS[0], ((5, 5, 5, 5),)), (COVERS[0], ((True, 1, 1, 1),)), (COVERS[0], ((False,) * 4,)), (COVERS[0], (4, 4, 4, 4)),
)
NO_ASKS = (
    *ODD, 5, (), [(1, 0), MARK], ((1, 0),), (MARK, (1, 0)), ((1, 0), MARK, MARK), *[((1, 0), mark) for mark in NO_WORDS],
    ((2, 0), MARK), ((0, 1), MARK), ((-1, 0), MARK), ((0, -1), MARK), ([1, 0], MARK), ((True, 0), MARK), ((1, False), MARK),
    ((1,), MARK), ((1, 0, 0), MARK), (1, MARK), (("1", "0"), MARK), ((LONG, 0), MARK), (None, MARK),
)
NO_LETTERS = (
    *[thing for thing in ODD if thing != ((1,), (0,))], 5, (), ((3,),), ((3,), (4,), (1,)), [(3,), (4,)], ((3,), [4]), ((3,), 4),
    ((3,), None), ((3,), ()), ((3,), (4, 4)), ((3,), (5,)), ((3,), (-1,)), ((3,), (True,)), ((3,), ("4",)), ((3,), (LONG,)), (3, 4), STOCK,
)
REFUSED = {
    "stock": NO_STOCKS, "ask": NO_ASKS, "covers": NO_COVERS, "lot": NO_LOTS, "shelf": NO_SHELVES, "letter": NO_LETTERS,
}


def letters_by_hand(hall, ask, covers):
    """The letters as [7] tells, digit by digit."""
    prime, size, _ = hall[0]
    (file, row), mark = ask
    letters = []
    for shelf in range(size):
        digits = [[cover[shelf] for cover in part] for part in covers]
        digits[file][row] = (digits[file][row] + mark[shelf]) % prime
        letters.append(tuple(tuple(part) for part in digits))
    return tuple(letters)


def answer_by_hand(prime, stock, shelf, letter):
    """The answer as [7] tells."""
    return sum(row[shelf] * letter[at][k] for at, file in enumerate(stock) for k, row in enumerate(file)) % prime


def some_asks(seed, many=3):
    """Halls with a stock, an ask and covers each, and a source of chances."""
    for hall, chance in some_halls(seed, many):
        stock = some_stock(chance, hall)
        ask = (some_slot(chance, stock), some_word(chance, *hall[0][:2]))
        yield hall, stock, ask, some_covers(chance, hall, stock), chance


class Covers(unittest.TestCase):
    """[50]."""

    def test_covers_are_of_words_of_hide(self):
        for hall, stock, _, covers, chance in some_asks(131):
            self.assertIs(are_covers(hall, stock, covers), True)
            self.assertIs(are_covers(hall, stock, [*covers]), False)
            self.assertIs(are_covers(hall, stock, covers[:-1]), False)
            self.assertIs(are_covers(hall, stock, (*covers, covers[0])), False)
            self.assertIs(are_covers(hall, stock, (*covers[:-1], covers[-1][:-1])), False)
            self.assertIs(are_covers(hall, stock, (*covers[:-1], covers[-1] + covers[-1][:1])), False)
            word = some_word(chance, *hall[0][:2])
            told = rank_of_rows(hall[0][0], (*hall[1][2], word)) == len(hall[1][2])
            self.assertIs(are_covers(hall, stock, ((word, *covers[0][1:]), *covers[1:])), told)

    def test_all_words_of_small_halls(self):
        for hall, chance in tiny_halls(132, 60):
            stock, words = some_stock(chance, hall)[:1], words_by_hand(hall[1])
            for word in all_words(*hall[0][:2]):
                self.assertIs(are_covers(hall, stock, ((word,) * len(stock[0]),)), word in words)

    def test_values_that_are_none(self):
        for thing in NO_COVERS:
            self.assertIs(are_covers(HALL, STOCK, thing), False)
        self.assertIs(are_covers(hall=HALL, thing=COVERS, stock=STOCK), True)

    def test_plain_covers(self):
        for hall, stock, _, _, _ in some_asks(133):
            told = tuple(tuple((0,) * hall[0][1] for _ in file) for file in stock)
            self.assertEqual(shown(plain_covers(hall, stock)), shown(told))
            self.assertIs(are_covers(hall, stock, plain_covers(hall, stock)), True)
        self.assertEqual(plain_covers(HALL, (((1, 2, 3, 4),) * 2,)), (((0,) * 4,) * 2,))

    def test_wrong_stocks(self):
        check_refused(self, are_covers, (HALL,), {"stock": STOCK, "thing": COVERS}, REFUSED)
        check_refused(self, are_covers, (HALL,), {"stock": STOCK, "thing": None}, REFUSED)
        check_refused(self, plain_covers, (HALL,), {"stock": STOCK}, REFUSED)

    def test_hide_without_rows_and_with_all_words(self):
        none, every = (5, 4, ()), (5, 4, tuple(tuple(int(j == k) for j in range(4)) for k in range(4)))
        self.assertEqual([are_covers((KEEP, none), STOCK, covers) for covers in (COVERS, plain_covers(HALL, STOCK))], [False, True])
        self.assertIs(are_covers((KEEP, every), STOCK, STOCK), True)


class Letters(unittest.TestCase):
    """[51]."""

    def test_letters_and_answers(self):
        for hall, stock, ask, covers, chance in some_asks(134, 6):
            prime, size, _ = hall[0]
            letters = letters_by_hand(hall, ask, covers)
            self.assertEqual(shown(letters_of(hall, stock, ask, covers)), shown(letters))
            answers = [answer_by_hand(prime, stock, shelf, letters[shelf]) for shelf in range(size)]
            for shelf in range(size):
                self.assertEqual(shown(answer_of(hall, stock, shelf, letters[shelf])), shown(answers[shelf]))
            for lot in ((), tuple(range(size)), some_lot(chance, size)):
                told = tuple((shelf, answers[shelf]) for shelf in lot)
                self.assertEqual(shown(answers_of(hall, stock, ask, covers, lot)), shown(told))

    def test_any_letters_are_answered(self):
        for hall, stock, _, _, chance in some_asks(135):
            letter = tuple(some_word(chance, hall[0][0], len(file)) for file in stock)
            for shelf in range(hall[0][1]):
                told = answer_by_hand(hall[0][0], stock, shelf, letter)
                self.assertEqual(answer_of(hall, stock, shelf, letter), told)

    def test_one_digit_of_the_letter_and_all_slots(self):
        stock = (((1, 2, 3, 4), (2, 2, 2, 2)), ((0, 1, 2, 3),))
        for shelf, (a, b, c) in itertools.product(range(4), itertools.product(range(5), repeat=3)):
            told = (a * stock[0][0][shelf] + b * stock[0][1][shelf] + c * stock[1][0][shelf]) % 5
            self.assertEqual(answer_of(HALL, stock, shelf, ((a, b), (c,))), told)

    def test_the_mark_is_added_at_the_slot_alone(self):
        stock = (((1, 2, 3, 4), (2, 2, 2, 2)), ((0, 1, 2, 3),) * 3)
        for slot in ((0, 0), (0, 1), (1, 0), (1, 1), (1, 2)):
            letters = letters_of(HALL, stock, (slot, (1, 2, 0, 4)), plain_covers(HALL, stock))
            told = tuple(tuple(tuple(digit if (at, row) == slot else 0 for row in range(len(file)))
                               for at, file in enumerate(stock)) for digit in (1, 2, 0, 4))
            self.assertEqual(letters, told)

    def test_wrong_values(self):
        check_refused(self, letters_of, (HALL,), {"stock": STOCK, "ask": ASK, "covers": COVERS}, REFUSED)
        check_refused(self, answer_of, (HALL,), {"stock": STOCK, "shelf": 2, "letter": ((3,), (4,))}, REFUSED)
        check_refused(self, answers_of, (HALL,), {"stock": STOCK, "ask": ASK, "covers": COVERS, "lot": (0, 1, 3)}, REFUSED)

    def test_what_is_right_for_another_stock_is_refused(self):
        one = (STOCK[0],)
        check_refused(self, letters_of, (HALL,), {"stock": one, "ask": ((0, 0), MARK), "covers": COVERS[:1]},
                      {"ask": (ASK,), "covers": (COVERS,)})
        check_refused(self, answer_of, (HALL,), {"stock": one, "shelf": 0, "letter": ((3,),)}, {"letter": (((3,), (4,)),)})


class Consequences(unittest.TestCase):
    """[52], at many inputs."""

    def test_plain_covers_give_the_mark_times_the_word(self):
        for hall, stock, (slot, mark), _, _ in some_asks(136):
            every = tuple(range(hall[0][1]))
            wanted = stock[slot[0]][slot[1]]
            told = tuple((shelf, mark[shelf] * wanted[shelf] % hall[0][0]) for shelf in every)
            self.assertEqual(answers_of(hall, stock, (slot, mark), plain_covers(hall, stock), every), told)

    def test_sums_of_letters_have_sums_of_answers(self):
        for hall, stock, _, _, chance in some_asks(137):
            prime = hall[0][0]
            for shelf in range(hall[0][1]):
                one, other = [tuple(some_word(chance, prime, len(file)) for file in stock) for _ in range(2)]
                both = tuple(plus(prime, left, right) for left, right in zip(one, other))
                told = sum(answer_of(hall, stock, shelf, letter) for letter in (one, other)) % prime
                self.assertEqual(answer_of(hall, stock, shelf, both), told)

    def test_answers_less_the_product_are_a_word_of_the_star(self):
        for hall, chance in tiny_halls(138):
            prime, star = hall[0][0], words_by_hand(star_of(*hall))
            for _ in range(3):
                stock = some_stock(chance, hall)
                slot, mark = some_slot(chance, stock), some_word(chance, *hall[0][:2])
                answers = answers_of(hall, stock, (slot, mark), some_covers(chance, hall, stock), tuple(range(hall[0][1])))
                wanted = stock[slot[0]][slot[1]]
                self.assertIn(tuple((digit - mark[shelf] * wanted[shelf]) % prime for shelf, digit in answers), star)
        self.assertEqual(star_of(KEEP, HIDE), KEEP)


if __name__ == "__main__":
    unittest.main()
