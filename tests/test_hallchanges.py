"""[89] and [92]: halls with a shelf more or less, with shelves in another order, and scaled."""

import itertools
import unittest

from starshelves.freelots import is_free
from starshelves.hallchanges import renamed, scaled, shortened, with_shelf, without_shelf
from starshelves.kinds import is_book
from starshelves.mending import can_mend
from starshelves.reading import reads
from starshelves.rounds import least_rounds
from starshelves.seeing import learns
from starshelves.stockkinds import is_hall
from tests.helper import (
    HALL, HIDE, KEEP, LONG, NO_SHELVES, NO_WORDS, ODD, PRIMES, check_refused, great_left, lots_below, not_usable, raised, rank_of_rows, shown,
    some_halls, some_lot, some_plan, some_silences, some_word, times_by_hand, tiny_halls, words_by_hand,
)

# What is no tuple of two digits, and of one digit, of 5.
NO_KEEPS = (
    *[thing for thing in ODD if thing not in ((2, 2),)], 5, (), (1,), (1, 1, 1), [2, 4], (2, 5), (2, -1), (2, True), (False, 4), (2, None), (2, "4"),
    ((2, 4),), (2, (4,)), "24", (LONG, 1),
)
NO_HIDES = (*[thing for thing in ODD], 5, (), (1, 1), [1], (5,), (-1,), (True,), ("1",), ((1,),), "1", (LONG,))
NO_ORDERS = (
    *ODD, 5, (), (0, 1, 2), (0, 1, 2, 3, 4), [0, 1, 2, 3], (0, 1, 2, 2), (1, 2, 3, 4), (0, 1, 2, -1), (0, True, 2, 3), (False, 1, 2, 3), (0, 1, 2, None),
    (0, 1, 2, "3"), ((0, 1, 2, 3),), "0123", (0, 1, 2, (3,)),
)
NO_SCALES = (*NO_WORDS, (0, 0, 0, 0), (1, 1, 0, 1), (0, 1, 1, 1), (1, 2, 3, 0))


def drawn(seed, most=130):
    """Tiny halls, and a source of chances."""
    return tiny_halls(seed, most)


def full_word(chance, prime, size):
    """A word without 0 by chance."""
    return tuple(chance.randint(1, prime - 1) for _ in range(size))


class Changed(unittest.TestCase):
    def check_books(self, hall, told):
        """The hall's books have just these words, and this prime and size."""
        self.assertTrue(is_hall(hall))
        for book, (prime, size, words) in zip(hall, told):
            self.assertTrue(is_book(book))
            self.assertEqual(book[:2], (prime, size))
            self.assertEqual(words_by_hand(book), words)

    def test_with_shelf(self):
        for hall, chance in drawn(401):
            prime, size, _ = hall[0]
            keeps, hides = (tuple(chance.randrange(prime) for _ in book[2]) for book in hall)
            told = []
            for book, digits in zip(hall, (keeps, hides)):
                words = set()
                for numbers in itertools.product(range(prime), repeat=len(book[2])):
                    word = [sum(n * row[place] for n, row in zip(numbers, book[2])) % prime for place in range(size)]
                    words.add((*word, sum(n * digit for n, digit in zip(numbers, digits)) % prime))
                told.append((prime, size + 1, words))
            self.check_books(with_shelf(hall, keeps, hides), told)

    def test_with_shelf_the_rows_have_these_digits(self):
        for hall, chance in some_halls(402):
            prime, size, _ = hall[0]
            keeps, hides = (tuple(chance.randrange(prime) for _ in book[2]) for book in hall)
            told = tuple((prime, size + 1, tuple((*row, digit) for row, digit in zip(book[2], digits)))
                         for book, digits in zip(hall, (keeps, hides)))
            self.assertEqual(shown(with_shelf(hall, keeps, hides)), shown(told))

    def test_without_shelf_and_shortened(self):
        seen = set()
        for hall, _ in drawn(403):
            prime, size, _ = hall[0]
            keep, hide = (words_by_hand(book) for book in hall)
            for shelf in range(size):
                cut = [{word[:shelf] + word[shelf + 1:] for word in words} for words in (keep, hide)]
                short = {word[:shelf] + word[shelf + 1:] for word in keep if word[shelf] == 0}
                for call, words in ((without_shelf, cut[0]), (shortened, short)):
                    if size == 1 or len(words) == 1:
                        self.assertEqual(raised(call, hall, shelf), not_usable("shelf"))
                    else:
                        self.check_books(call(hall, shelf), [(prime, size - 1, words), (prime, size - 1, cut[1])])
                    seen.add((call, size == 1, len(words) == 1))
        self.assertEqual(len(seen), 6)

    def test_a_hall_of_one_shelf_and_keep_of_one_row(self):
        for prime in PRIMES:
            one = ((prime, 1, ((1,),)), (prime, 1, ()))
            for call in (without_shelf, shortened):
                self.assertEqual(raised(call, one, 0), not_usable("shelf"))
            row = ((prime, 3, ((0, 1, 0),)), (prime, 3, ((1, 0, 1),)))
            self.assertEqual(without_shelf(row, 0), ((prime, 2, ((1, 0),)), (prime, 2, ((0, 1),))))
            self.assertEqual(raised(without_shelf, row, 1), not_usable("shelf"))
            self.assertEqual(raised(shortened, row, 1), not_usable("shelf"))
            self.assertEqual(shortened(row, 2), ((prime, 2, ((0, 1),)), (prime, 2, ((1, 0),))))
            full = ((prime, 3, ((1, 1, 1),)), (prime, 3, ()))
            self.assertEqual([raised(shortened, full, shelf) for shelf in range(3)], [not_usable("shelf")] * 3)

    def test_renamed(self):
        for hall, chance in drawn(404):
            prime, size, _ = hall[0]
            order = tuple(chance.sample(range(size), size))
            told = [(prime, size, {tuple(word[place] for place in order) for word in words_by_hand(book)}) for book in hall]
            self.check_books(renamed(hall, order), told)

    def test_orders_that_change_nothing_and_take_back(self):
        for hall, chance in some_halls(405, 4):
            size = hall[0][1]
            order = tuple(chance.sample(range(size), size))
            back = tuple(order.index(place) for place in range(size))
            self.assertEqual(shown(renamed(hall, tuple(range(size)))), shown(hall))
            self.assertEqual(shown(renamed(renamed(hall, order), back)), shown(hall))
        self.assertEqual(renamed(HALL, (3, 2, 1, 0)), HALL)

    def test_scaled(self):
        for hall, chance in drawn(406):
            prime, size, _ = hall[0]
            words = [full_word(chance, prime, size) for _ in hall]
            told = [(prime, size, {times_by_hand(prime, one, word) for one in words_by_hand(book)}) for book, word in zip(hall, words)]
            self.check_books(scaled(hall, *words), told)

    def test_scaled_by_ones_and_back(self):
        for hall, chance in some_halls(407, 4):
            prime, size, _ = hall[0]
            keeps, hides = full_word(chance, prime, size), full_word(chance, prime, size)
            back = [tuple(pow(digit, -1, prime) for digit in word) for word in (keeps, hides)]
            self.assertEqual(shown(scaled(hall, (1,) * size, (prime - 1,) * size)), shown(hall))
            self.assertEqual(shown(scaled(scaled(hall, keeps, hides), *back)), shown(hall))

    def test_a_hide_without_rows(self):
        hall = (KEEP, (5, 4, ()))
        self.assertEqual(with_shelf(hall, (0, 0), ())[1], (5, 5, ()))
        self.assertEqual([without_shelf(hall, 3)[1], shortened(hall, 3)[1]], [(5, 3, ())] * 2)
        self.assertEqual([renamed(hall, (1, 0, 3, 2))[1], scaled(hall, (1, 2, 3, 4), (4, 4, 4, 4))[1]], [(5, 4, ())] * 2)
        self.assertEqual(raised(with_shelf, hall, (0, 0), (0,)), not_usable("hides"))

    def test_halls_of_eight_shelves(self):
        for hall, chance in some_halls(408, 8):
            prime, size, _ = hall[0]
            if size < 2:
                continue
            shelf = chance.randrange(size)
            rest = [place for place in range(size) if place != shelf]
            ranks = [rank_of_rows(prime, [[row[place] for place in rest] for row in book[2]]) for book in hall]
            if ranks[0]:
                self.assertEqual([len(book[2]) for book in without_shelf(hall, shelf)], ranks)


class Refused(unittest.TestCase):
    def test_wrong_values(self):
        check_refused(self, with_shelf, (HALL,), {"keeps": (2, 4), "hides": (1,)}, {"keeps": NO_KEEPS, "hides": NO_HIDES})
        for call in (without_shelf, shortened):
            check_refused(self, call, (HALL,), {"shelf": 0}, {"shelf": (*NO_SHELVES, *ODD)})
        check_refused(self, renamed, (HALL,), {"order": (3, 1, 2, 0)}, {"order": NO_ORDERS})
        check_refused(self, scaled, (HALL,), {"keeps": (1, 2, 3, 4), "hides": (4, 1, 1, 2)}, {"keeps": NO_SCALES, "hides": NO_SCALES})


class Consequences(unittest.TestCase):
    """[92], at many inputs."""

    def test_a_hall_and_the_scaled_one_lose_hide_and_need_rounds_alike(self):
        for hall, chance in [*drawn(411), *some_halls(412, 2)]:
            prime, size, _ = hall[0]
            other = scaled(hall, full_word(chance, prime, size), full_word(chance, prime, size))
            for lot in lots_below(size) if size < 5 else [some_lot(chance, size) for _ in range(8)]:
                self.assertEqual(can_mend(hall, lot), can_mend(other, lot))
                self.assertEqual(is_free(hall[1], lot), is_free(other[1], lot))
                self.assertEqual(least_rounds(hall, lot), least_rounds(other, lot))

    def test_marks_times_the_digits_of_hides(self):
        for hall, chance in [*drawn(413), *some_halls(414)]:
            prime, size, _ = hall[0]
            hides = full_word(chance, prime, size)
            other = scaled(hall, full_word(chance, prime, size), hides)
            plan = some_plan(chance, hall)
            turned = tuple(times_by_hand(prime, mark, hides) for mark in plan)
            for lot in lots_below(size) if size < 5 else [some_lot(chance, size) for _ in range(10)]:
                self.assertEqual(learns(hall, plan[0], lot), learns(other, turned[0], lot))
            silences = some_silences(chance, hall, plan)
            self.assertEqual(reads(hall, plan, silences), reads(other, turned, silences))

    def test_without_shelf_needs_as_many_rounds_as_with_it_silent(self):
        for hall, silent, _, chance in great_left(415, 4):
            size = hall[0][1]
            shelf = chance.randrange(size)
            if size > 1 and can_mend(hall, (shelf,)):
                silent = tuple(place for place in silent if place != shelf)
                fewer = tuple(place - (place > shelf) for place in silent)
                told = least_rounds(hall, tuple(sorted((*silent, shelf))))
                self.assertEqual(shown(least_rounds(without_shelf(hall, shelf), fewer)), shown(told))

    def test_without_shelf_takes_back_with_shelf_by_which_no_more_rounds_are_needed(self):
        for hall, silent, _, chance in great_left(416, 2):
            prime, size, _ = hall[0]
            more = with_shelf(hall, *[tuple(chance.randrange(prime) for _ in book[2]) for book in hall])
            self.assertEqual(shown(without_shelf(more, size)), shown(hall))
            least = least_rounds(hall, silent)
            if least is not None:
                self.assertLessEqual(least_rounds(more, silent), least)

    def test_other_names_change_nothing_else(self):
        for hall, silent, _, chance in great_left(417, 2):
            size = hall[0][1]
            order = tuple(chance.sample(range(size), size))
            other = renamed(hall, order)
            lot = tuple(sorted(order.index(place) for place in silent))
            self.assertEqual(least_rounds(other, lot), least_rounds(hall, silent))
            mark = some_word(chance, *hall[0][:2])
            self.assertEqual(learns(other, tuple(mark[place] for place in order), lot), learns(hall, mark, silent))

    def test_the_example(self):
        self.assertEqual([without_shelf(HALL, 0), shortened(HALL, 0)[0]], [((5, 3, ((1, 0, 4), (0, 1, 2))), (5, 3, ((1, 1, 1),))), (5, 3, ((1, 2, 3),))])
        self.assertEqual(scaled((HIDE, KEEP), (1, 2, 3, 4), (1, 1, 1, 1)), ((5, 4, ((1, 2, 3, 4),)), KEEP))


if __name__ == "__main__":
    unittest.main()
