"""[18] to [21]: books spanned, checked, multiplied, added, met, searched and cut."""

import itertools
import unittest

from starshelves.books import (
    checks_of, cut_of, has_word, is_part, meet_of, rank_of, span_of, star_of, sum_of, within_of, words_of,
)
from starshelves.kinds import is_book
from starshelves.words import sum_of_products
from tests.helper import (
    HIDE, KEEP, PRIMES, all_books, all_words, chance_of, cut_by_hand, dot, lots_below, not_usable, raised, shown,
    some_book, some_lot, some_word, sums_by_hand, words_by_hand,
)

SMALL = ((2, 1), (2, 2), (2, 3), (3, 1), (3, 2), (5, 1), (7, 1), (11, 1), (13, 1))
OF_TWO = (star_of, sum_of, meet_of, is_part)
LONG = 10 ** 60 - 1


class SmallBooks(unittest.TestCase):
    """Held against going through all words."""

    def same_words(self, book, words):
        self.assertTrue(is_book(book), book)
        self.assertEqual(words_by_hand(book), set(words))

    def test_spans(self):
        for prime, size in ((2, 1), (2, 2), (3, 1), (3, 2), (5, 1)):
            words = all_words(prime, size)
            for many in range(3):
                for some in itertools.product(words, repeat=many):
                    book = span_of(prime, size, some)
                    self.assertEqual(book[:2], (prime, size))
                    self.same_words(book, sums_by_hand(prime, size, some))

    def test_checks(self):
        for prime, size in (*SMALL, (2, 4), (5, 2), (3, 3)):
            for book in all_books(prime, size):
                words = words_by_hand(book)
                told = [one for one in all_words(prime, size) if all(dot(prime, one, other) == 0 for other in words)]
                self.same_words(checks_of(book), told)

    def test_stars_sums_meets_and_parts(self):
        for prime, size in SMALL:
            for one, other in itertools.product(all_books(prime, size), repeat=2):
                ones, others = words_by_hand(one), words_by_hand(other)
                products = [tuple(a * b % prime for a, b in zip(x, y)) for x in ones for y in others]
                self.same_words(star_of(one, other), sums_by_hand(prime, size, products))
                self.same_words(sum_of(one, other), sums_by_hand(prime, size, [*ones, *others]))
                self.same_words(meet_of(one, other), ones & others)
                self.assertIs(is_part(one, other), ones <= others)

    def test_ranks_words_and_membership(self):
        for prime, size in (*SMALL, (5, 2), (2, 4)):
            for book in all_books(prime, size):
                words = words_by_hand(book)
                self.assertEqual(shown(words_of(book)), shown(tuple(sorted(words))))
                self.assertEqual(prime ** rank_of(book), len(words))
                for one in all_words(prime, size):
                    self.assertIs(has_word(book, one), one in words)

    def test_within_and_cut(self):
        for prime, size in (*SMALL, (2, 4), (3, 3)):
            for book in all_books(prime, size):
                words = words_by_hand(book)
                for lot in lots_below(size):
                    told = [one for one in words if all(one[k] == 0 for k in range(size) if k not in lot)]
                    self.same_words(within_of(book, lot), told)
                    if lot:
                        self.assertEqual(cut_of(book, lot)[:2], (prime, len(lot)))
                        self.same_words(cut_of(book, lot), cut_by_hand(words, lot))


class GreatBooks(unittest.TestCase):
    """[21] and the definitions, at books of up to forty places over all six primes."""

    def books(self, seed, sizes=(1, 2, 5, 8, 17, 40)):
        chance = chance_of(seed)
        for prime in PRIMES:
            for size in sizes:
                yield prime, size, some_book(chance, prime, size), some_book(chance, prime, size), chance

    def test_spans_have_their_words_and_no_further_row(self):
        for prime, size, _, _, chance in self.books(6):
            words = tuple(some_word(chance, prime, size) for _ in range(chance.randint(0, 6)))
            book = span_of(prime, size, words)
            self.assertTrue(is_book(book))
            self.assertTrue(all(has_word(book, one) for one in words))
            self.assertLessEqual(rank_of(book), len(words))
            self.assertEqual(span_of(prime, size, book[2]), book)
            self.assertEqual(span_of(prime, size, words[::-1] + words), book)

    def test_checks_of_the_checks_are_the_book(self):
        for prime, size, book, _, _ in self.books(7):
            checks = checks_of(book)
            self.assertTrue(is_book(checks))
            self.assertEqual(checks_of(checks), book)
            self.assertEqual(rank_of(checks) + rank_of(book), size)
            self.assertTrue(all(dot(prime, row, check) == 0 for row in book[2] for check in checks[2]))

    def test_checks_of_a_cut_are_the_checks_within_cut(self):
        for _, size, book, _, chance in self.books(8):
            lot = some_lot(chance, size) or (0,)
            self.assertEqual(checks_of(cut_of(book, lot)), cut_of(within_of(checks_of(book), lot), lot))

    def test_the_star_with_level_words_is_the_book(self):
        for prime, size, book, other, _ in self.books(9):
            self.assertEqual(star_of(book, (prime, size, ((1,) * size,))), book)
            self.assertEqual(star_of((prime, size, ((1,) * size,)), book), book)
            self.assertEqual(star_of(book, other), star_of(other, book))
            self.assertEqual(star_of(book, (prime, size, ())), (prime, size, ()))

    def test_star_sum_meet(self):
        for prime, size, one, other, chance in self.books(10):
            star, total, meet = star_of(one, other), sum_of(one, other), meet_of(one, other)
            self.assertTrue(is_book(star) and is_book(total) and is_book(meet))
            left = tuple(sum(column) % prime for column in zip(*one[2])) or (0,) * size
            right = tuple(sum(column) * 2 % prime for column in zip(*other[2])) or (0,) * size
            self.assertTrue(has_word(star, tuple(a * b % prime for a, b in zip(left, right))))
            self.assertTrue(has_word(total, tuple((a + b) % prime for a, b in zip(left, right))))
            self.assertEqual(rank_of(total) + rank_of(meet), rank_of(one) + rank_of(other))
            self.assertTrue(is_part(meet, one) and is_part(meet, other) and is_part(one, total))
            self.assertEqual(is_part(one, other), total == other)

    def test_within_lies_within_and_has_the_right_rank(self):
        for prime, size, book, _, chance in self.books(11):
            lot = some_lot(chance, size)
            rest = tuple(place for place in range(size) if place not in lot)
            part = within_of(book, lot)
            self.assertTrue(is_book(part) and is_part(part, book))
            self.assertTrue(all(row[place] == 0 for row in part[2] for place in rest))
            self.assertEqual(rank_of(part), rank_of(book) - (rank_of(cut_of(book, rest)) if rest else 0))
            self.assertEqual(within_of(book, ()), (prime, size, ()))
            self.assertEqual(within_of(book, tuple(range(size))), book)

    def test_words_up_to_seven_hundred(self):
        for prime, rank in ((2, 9), (3, 5), (5, 4), (7, 3), (11, 2), (13, 2)):
            book = some_book(chance_of(prime), prime, 40, rank)
            words = words_of(book)
            self.assertEqual(len(words), prime ** rank)
            self.assertEqual(list(words), sorted(set(words)))
            self.assertTrue(all(has_word(book, one) for one in words))

    def test_no_rows_and_all_words(self):
        for prime in PRIMES:
            nothing, all_of = (prime, 3, ()), (prime, 3, ((1, 0, 0), (0, 1, 0), (0, 0, 1)))
            self.assertEqual(span_of(prime, 3, ()), nothing)
            self.assertEqual(span_of(prime, 3, ((0, 0, 0),)), nothing)
            self.assertEqual(checks_of(nothing), all_of)
            self.assertEqual(checks_of(all_of), nothing)
            self.assertEqual(words_of(nothing), ((0, 0, 0),))
            self.assertEqual(star_of(all_of, all_of), all_of)
            self.assertEqual(cut_of(nothing, (1,)), (prime, 1, ()))
            self.assertEqual(cut_of(all_of, (2,)), (prime, 1, ((1,),)))

    def test_the_checks_that_the_document_names(self):
        self.assertEqual(star_of(KEEP, HIDE), KEEP)
        checks = checks_of(star_of(KEEP, HIDE))
        self.assertEqual(checks, (5, 4, ((1, 0, 2, 2), (0, 1, 3, 1))))
        self.assertEqual([sum_of_products(5, check, (3, 1, 2, 0)) for check in checks[2]], [2, 2])


class Refused(unittest.TestCase):
    def test_span_goes_by_prime_size_words(self):
        for prime in (None, True, 4, 0, "5", (5,)):
            self.assertEqual(raised(span_of, prime, 2, ()), not_usable("prime"))
            self.assertEqual(raised(span_of, prime, 0, None), not_usable("prime"))
        for size in (None, True, 0, -1, "2", (2,), -LONG):
            self.assertEqual(raised(span_of, 5, size, ()), not_usable("size"))
            self.assertEqual(raised(span_of, 5, size, None), not_usable("size"))
        odd = (None, 0, "12", [], [(1, 2)], ((1,),), ((1, 2, 3),), ((1, 5),), ((1, True),), ([1, 2],), ((1, 2), None))
        for words in odd:
            self.assertEqual(raised(span_of, 5, 2, words), not_usable("words"))

    def test_books_of_unlike_primes_or_sizes(self):
        for call in OF_TWO:
            for other in ((5, 3, ()), (7, 4, ()), (7, 3, ()), (3, 4, ((1, 1, 1, 1),))):
                self.assertEqual(raised(call, KEEP, other), not_usable("other"))
                self.assertEqual(raised(call, other, KEEP), not_usable("other"))

    def test_words_of_another_kind(self):
        for one in (None, 1, (), (1, 1, 1), (1, 1, 1, 1, 1), [1, 1, 1, 1], (1, 1, 1, 5), (1, 1, 1, True), (1, 1, 1, -1)):
            self.assertEqual(raised(has_word, KEEP, one), not_usable("one"))

    def test_lots_of_another_kind(self):
        for lot in (None, 0, "0", [0], (4,), (1, 0), (0, 0), (-1,), (True,), (0, True), ((0,),), (LONG,)):
            self.assertEqual(raised(within_of, KEEP, lot), not_usable("lot"))
            self.assertEqual(raised(cut_of, KEEP, lot), not_usable("lot"))
        self.assertEqual(raised(cut_of, KEEP, ()), not_usable("lot"))

    def test_results_are_of_their_kinds(self):
        self.assertEqual(shown(span_of(2, 1, ((1,),))), "(2, 1, ((1,),))")
        self.assertEqual(shown(checks_of((2, 2, ((1, 1),)))), "(2, 2, ((1, 1),))")
        self.assertEqual(shown(sum_of((2, 1, ()), (2, 1, ()))), "(2, 1, ())")
        self.assertEqual(shown(rank_of((2, 1, ((1,),)))), "1")
        self.assertEqual(shown(is_part((2, 1, ()), (2, 1, ()))), "True")
        self.assertEqual(shown(words_of((2, 1, ((1,),)))), "((0,), (1,))")
        self.assertEqual(shown(within_of((2, 1, ((1,),)), (0,))), "(2, 1, ((1,),))")


if __name__ == "__main__":
    unittest.main()
