"""[57], [60] as far as it speaks of these, and (G2) of [10]: marks that nobody sees, and what lots see."""

import unittest

from starshelves.asking import letters_of
from starshelves.books import is_part
from starshelves.freelots import is_free
from starshelves.hidden import hidden_marks, hides_all, sight_count, sights_at
from starshelves.kinds import is_book
from starshelves.seeing import learns
from tests.helper import (
    HALL, HIDE, KEEP, NO_FAMILIES, NO_LOTS, NO_WORDS, PRIMES, STOCK, all_words, check_refused, lots_below, rank_of_rows,
    shown, some_halls, some_lot, some_word, some_word_in, tiny_halls, words_by_hand,
)


def some_family(chance, size, most=6):
    """A family by chance, perhaps without lots."""
    return tuple(sorted({some_lot(chance, size) for _ in range(chance.randint(0, most))}))


def sights_by_hand(hall, mark, lot):
    """The set of what the lot sees at the slot that is asked for, by each word of hide."""
    prime = hall[0][0]
    return tuple(sorted({tuple((one[place] + mark[place]) % prime for place in lot) for one in words_by_hand(hall[1])}))


class Hidden(unittest.TestCase):
    """[57] and (G2), held against going through all marks."""

    def test_small_halls(self):
        for hall, chance in tiny_halls(161, 130, 3):
            words = words_by_hand(hall[1])
            for family in (some_family(chance, hall[0][1]), some_family(chance, hall[0][1], 2)):
                cuts = [(lot, {tuple(one[place] for place in lot) for one in words}) for lot in family]
                told = {mark for mark in all_words(*hall[0][:2])
                        if all(tuple(mark[place] for place in lot) in cut for lot, cut in cuts)}
                book = hidden_marks(hall, family)
                self.assertTrue(is_book(book))
                self.assertEqual(book[:2], hall[0][:2])
                self.assertEqual(words_by_hand(book), told)
                self.assertLessEqual(words, told)
                self.assertIs(hides_all(hall, family), len(told) == hall[0][0] ** hall[0][1])

    def test_no_lot_of_the_family_learns_of_hidden_marks(self):
        for hall, chance in some_halls(162, 5):
            family = some_family(chance, hall[0][1])
            book = hidden_marks(hall, family)
            self.assertTrue(is_part(hall[1], book))
            for mark in (some_word_in(chance, book), some_word(chance, *hall[0][:2]), some_word(chance, *hall[0][:2])):
                inside = rank_of_rows(book[0], [*book[2], mark]) == len(book[2])
                self.assertIs(inside, not any(learns(hall, mark, lot) for lot in family))

    def test_free_lots_hide_all(self):
        for hall, chance in some_halls(163, 5):
            family = some_family(chance, hall[0][1], 3)
            self.assertIs(hides_all(hall, family), all(is_free(hall[1], lot) for lot in family))

    def test_no_lot_the_lot_without_shelves_and_that_of_all(self):
        for hall, _ in some_halls(164):
            prime, size, _ = hall[0]
            every = tuple(range(size))
            units = tuple(tuple(int(j == k) for j in range(size)) for k in range(size))
            for family in ((), ((),)):
                self.assertEqual(shown(hidden_marks(hall, family)), shown((prime, size, units)))
                self.assertIs(hides_all(hall, family), True)
            for family in ((every,), ((), every)):
                self.assertEqual(shown(hidden_marks(hall, family)), shown(hall[1]))
                self.assertIs(hides_all(hall, family), len(hall[1][2]) == size)

    def test_hide_without_rows_and_with_all_words(self):
        for prime in PRIMES:
            keep = (prime, 3, ((1, 0, 1),))
            none, every = (keep, (prime, 3, ())), (keep, (prime, 3, ((1, 0, 0), (0, 1, 0), (0, 0, 1))))
            self.assertEqual(hidden_marks(none, ((0,), (0, 2))), (prime, 3, ((0, 1, 0),)))
            self.assertEqual(hidden_marks(every, ((0, 1, 2),)), every[1])
            self.assertEqual([hides_all(none, ((1,),)), hides_all(every, ((0, 1, 2),))], [False, True])

    def test_sixty_lots(self):
        for hall, chance in some_halls(165):
            size = hall[0][1]
            family = tuple(sorted(chance.sample(lots_below(size), min(60, 2 ** size))))
            book = hidden_marks(hall, family)
            self.assertEqual(book, hidden_marks(hall, tuple(lot for lot in family if len(lot) > 0)))

    def test_wrong_families(self):
        for call in (hidden_marks, hides_all):
            check_refused(self, call, (HALL,), {"family": ((0,), (1, 2))}, {"family": NO_FAMILIES})


class Sights(unittest.TestCase):
    def test_small_halls(self):
        for hall, chance in tiny_halls(166):
            for lot in lots_below(hall[0][1]):
                mark = some_word(chance, *hall[0][:2])
                told = sights_by_hand(hall, mark, lot)
                self.assertEqual(shown(sights_at(hall, mark, lot)), shown(told))
                self.assertEqual(shown(sight_count(hall, lot)), shown(len(told)))

    def test_what_is_seen_are_the_letters(self):
        for mark in ((1, 1, 0, 0), (0, 1, 2, 4)):
            for lot in lots_below(4):
                seen = set()
                for digit in range(5):
                    letters = letters_of(HALL, STOCK, ((1, 0), mark), (((0,) * 4,), ((digit,) * 4,)))
                    seen.add(tuple(letters[shelf][1][0] for shelf in lot))
                self.assertEqual(sights_at(HALL, mark, lot), tuple(sorted(seen)))

    def test_counts_of_great_books(self):
        for hall, _ in some_halls(167):
            for lot in lots_below(hall[0][1])[::5]:
                rank = rank_of_rows(hall[0][0], [[row[place] for place in lot] for row in hall[1][2]])
                self.assertEqual(shown(sight_count(hall, lot)), shown(hall[0][0] ** rank))
        hall = ((13, 8, ((1,) * 8,)), (13, 8, tuple(tuple(int(j == k) for j in range(8)) for k in range(5))))
        self.assertEqual([sight_count(hall, lot) for lot in ((), (5, 6), (0, 4, 7), tuple(range(8)))], [1, 1, 169, 13 ** 5])

    def test_the_lot_without_shelves(self):
        for hall, chance in some_halls(168):
            self.assertEqual(shown(sights_at(hall, some_word(chance, *hall[0][:2]), ())), "((),)")
            self.assertEqual(sight_count(hall, ()), 1)

    def test_hide_without_rows(self):
        hall = (KEEP, (5, 4, ()))
        self.assertEqual([sight_count(hall, (0, 2)), sights_at(hall, (1, 2, 3, 4), (0, 2))], [1, ((1, 3),)])
        self.assertEqual(sights_at((KEEP, HIDE), (0, 1, 0, 1), (1, 3)), tuple((digit, digit) for digit in range(5)))

    def test_wrong_values(self):
        check_refused(self, sight_count, (HALL,), {"lot": (0, 2)}, {"lot": NO_LOTS})
        check_refused(self, sights_at, (HALL,), {"mark": (1, 1, 0, 0), "lot": (0, 2)}, {"mark": NO_WORDS, "lot": NO_LOTS})


class Consequences(unittest.TestCase):
    """[60], at many inputs."""

    def test_further_lots_hide_a_part(self):
        for hall, chance in some_halls(169, 5):
            family = some_family(chance, hall[0][1])
            more = tuple(sorted({*family, *some_family(chance, hall[0][1])}))
            self.assertTrue(is_part(hidden_marks(hall, more), hidden_marks(hall, family)))

    def test_as_many_sights_as_are_counted_with_noughts_if_nothing_is_learned(self):
        for hall, chance in tiny_halls(170, 700):
            if hall[0][0] ** len(hall[1][2]) > 700:
                continue
            for lot in lots_below(hall[0][1])[::2]:
                for mark in (some_word(chance, *hall[0][:2]), some_word_in(chance, hall[1])):
                    sights = sights_at(hall, mark, lot)
                    self.assertEqual(len(sights), sight_count(hall, lot))
                    self.assertEqual(list(sights), sorted(set(sights)))
                    self.assertIs((0,) * len(lot) in sights, not learns(hall, mark, lot))

    def test_a_lot_learns_of_marks_out_of_those_hidden_from_it_alone(self):
        for hall, chance in some_halls(171, 5):
            lot = some_lot(chance, hall[0][1])
            book = hidden_marks(hall, (lot,))
            for mark in (some_word(chance, *hall[0][:2]), some_word_in(chance, book)):
                inside = rank_of_rows(book[0], [*book[2], mark]) == len(book[2])
                self.assertIs(learns(hall, mark, lot), not inside)


if __name__ == "__main__":
    unittest.main()
