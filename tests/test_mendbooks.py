"""[90] and [92]: books whose words show who learns, and which plans read."""

import itertools
import unittest

from starshelves.bookchecker import lets_book
from starshelves.mendbooks import learning_book, reading_book
from starshelves.reading import reads
from starshelves.seeing import learns
from tests.helper import (
    HALL, HIDE, KEEP, NO_PLANS, NO_WORDS, PRIMES, check_refused, great_plans, lots_below, plus, point_halls, rank_of_rows, shown, some_halls,
    some_lot, some_plan, some_plans, some_word, some_word_in, star_by_hand, sums_by_hand, times_by_hand, tiny_halls, words_by_hand,
)


def cut_rank(book, places):
    """The rank of the book cut to these places."""
    return rank_of_rows(book[0], [[row[place] for place in places] for row in book[2]])


def shows(book, blank, told):
    """Whether some word of the book is 0 at the places blank, but not at all places told."""
    return cut_rank(book, [*blank, *told]) > cut_rank(book, blank)


def heard_places(hall, silences):
    """The places of a reading book at which shelves answer."""
    size = hall[0][1]
    return [size * turn + shelf for turn, silent in enumerate(silences) for shelf in range(size) if shelf not in silent]


class Learning(unittest.TestCase):
    """learning_book."""

    def test_words_of_small_halls(self):
        for hall, chance in tiny_halls(421, 60):
            prime, size, _ = hall[0]
            for mark in (some_word(chance, prime, size), some_word_in(chance, hall[1]), (0,) * size):
                told = sums_by_hand(prime, size + 1, [*[(*row, 0) for row in hall[1][2]], (*mark, 1)])
                book = learning_book(hall, mark)
                self.assertEqual([lets_book(book), book[:2]], [len(hall[1][2]) + 1, (prime, size + 1)])
                self.assertEqual(words_by_hand(book), told)

    def test_a_lot_learns_if_no_word_is_0_on_it_but_not_at_the_last_place(self):
        for hall, chance in [*tiny_halls(422), *some_halls(423, 4)]:
            prime, size, _ = hall[0]
            for mark in (some_word(chance, prime, size), some_word_in(chance, hall[1])):
                book = learning_book(hall, mark)
                for lot in lots_below(size) if size < 6 else [some_lot(chance, size) for _ in range(12)]:
                    self.assertIs(learns(hall, mark, lot), not shows(book, lot, [size]))

    def test_words_of_hide_as_marks(self):
        for hall, chance in some_halls(424):
            prime, size, _ = hall[0]
            book = learning_book(hall, some_word_in(chance, hall[1]))
            self.assertEqual(book, learning_book(hall, (0,) * size))
            self.assertIn((*(0,) * size, 1), book[2])

    def test_eight_shelves_and_a_place_more(self):
        for prime in PRIMES:
            hall = ((prime, 8, ((1,) * 8,)), (prime, 8, ((1, 0, 0, 0, 1, 1, 1, 1), (0, 1, 1, 1, 1, 0, 0, 1))))
            book = learning_book(hall, (1, 1, 0, 0, 0, 0, 0, 0))
            self.assertEqual([lets_book(book), book[1]], [3, 9])

    def test_wrong_values(self):
        check_refused(self, learning_book, (HALL,), {"mark": (1, 1, 0, 0)}, {"mark": NO_WORDS})


class Reading(unittest.TestCase):
    """reading_book."""

    def test_words_of_small_halls(self):
        counted = 0
        for hall, plan, _, _ in some_plans(425, 27, 2, 2):
            prime, size, _ = hall[0]
            stars, words = star_by_hand(hall), words_by_hand(hall[0])
            if len(stars) ** len(plan) * len(words) > 4000:
                continue
            told = set()
            for word in words:
                for covers in itertools.product(stars, repeat=len(plan)):
                    parts = [plus(prime, cover, times_by_hand(prime, mark, word)) for cover, mark in zip(covers, plan)]
                    told.add((*[digit for part in parts for digit in part], *word))
            book = reading_book(hall, plan)
            lets_book(book)
            self.assertEqual(book[:2], (prime, size * (len(plan) + 1)))
            self.assertEqual(words_by_hand(book), told)
            counted += 1
        self.assertGreater(counted, 30)

    def test_a_plan_reads_if_no_word_is_0_where_shelves_answer_but_not_behind(self):
        seen = set()
        for hall, plan, silences, _ in [*some_plans(426), *great_plans(427)]:
            size, book = hall[0][1], reading_book(hall, plan)
            told = not shows(book, heard_places(hall, silences), range(size * len(plan), size * (len(plan) + 1)))
            self.assertIs(reads(hall, plan, silences), told)
            seen.add((told, book[1] > 8, book[1] > 40))
        self.assertLessEqual({(True, False, False), (False, False, False), (False, True, False), (True, True, False)}, seen)

    def test_plans_of_halls_of_points(self):
        for hall, silent, chance in point_halls(428, (5, 7)):
            plan = some_plan(chance, hall, 4)
            size, book = hall[0][1], reading_book(hall, plan)
            told = not shows(book, heard_places(hall, (silent,) * len(plan)), range(size * len(plan), size * (len(plan) + 1)))
            self.assertIs(reads(hall, plan, (silent,) * len(plan)), told)

    def test_forty_places(self):
        for prime in PRIMES:
            hall = ((prime, 8, ((1, 0, 0, 0, 1, 1, 1, 1), (0, 1, 1, 1, 0, 0, 1, 1))), (prime, 8, ((1,) * 8,)))
            book = reading_book(hall, ((1,) + (0,) * 7, (0, 1) + (0,) * 6, (1,) * 8, (0,) * 8))
            self.assertEqual([lets_book(book), book[1]], [2 * 4 + 2, 40])

    def test_a_hide_without_rows(self):
        book = reading_book((KEEP, (5, 4, ())), ((1, 1, 1, 1), (0, 0, 0, 0)))
        self.assertEqual(shown(book), shown((5, 12, tuple((*row, 0, 0, 0, 0, *row) for row in KEEP[2]))))
        self.assertEqual(reading_book((HIDE, (5, 4, ())), ((1, 2, 3, 4),)), (5, 8, ((1, 2, 3, 4, 1, 1, 1, 1),)))

    def test_wrong_values(self):
        check_refused(self, reading_book, (HALL,), {"plan": ((1, 1, 0, 0),)}, {"plan": NO_PLANS})


if __name__ == "__main__":
    unittest.main()
