"""[13], [15], [16]: words of digits."""

import unittest

from starshelves.words import (
    added, cut, lessened, lot_of, product_of, sum_of_products, times, weight_of,
)
from tests.helper import ODD, PRIMES, all_words, chance_of, dot, not_usable, raised, shown, some_lot, some_word

OF_TWO = (added, lessened, product_of, sum_of_products)
LONG = 10 ** 60 - 1


class Sums(unittest.TestCase):
    def test_all_pairs_of_small_words(self):
        for prime, size in ((2, 3), (3, 2), (5, 1), (7, 1), (11, 1), (13, 1)):
            for one in all_words(prime, size):
                for other in all_words(prime, size):
                    pairs = list(zip(one, other))
                    self.assertEqual(added(prime, one, other), tuple((a + b) % prime for a, b in pairs))
                    self.assertEqual(lessened(prime, one, other), tuple((a - b) % prime for a, b in pairs))
                    self.assertEqual(product_of(prime, one, other), tuple(a * b % prime for a, b in pairs))
                    self.assertEqual(sum_of_products(prime, one, other), dot(prime, one, other))

    def test_words_of_up_to_forty_places(self):
        chance = chance_of(2)
        for prime in PRIMES:
            for size in (1, 8, 9, 40):
                one, other = some_word(chance, prime, size), some_word(chance, prime, size)
                self.assertEqual(lessened(prime, added(prime, one, other), other), one)
                self.assertEqual(product_of(prime, one, (1,) * size), one)
                self.assertEqual(sum_of_products(prime, one, (1,) * size), sum(one) % prime)

    def test_times_is_the_sum_so_many_times(self):
        chance = chance_of(3)
        for prime in PRIMES:
            one = some_word(chance, prime, 6)
            total = (0,) * 6
            for digit in range(prime):
                self.assertEqual(times(prime, digit, one), total)
                total = added(prime, total, one)

    def test_kinds_of_results(self):
        self.assertEqual(shown(added(2, (1,), (1,))), "(0,)")
        self.assertEqual(shown(lessened(2, (0,), (1,))), "(1,)")
        self.assertEqual(shown(product_of(2, (1,), (1,))), "(1,)")
        self.assertEqual(shown(times(2, 1, (1,))), "(1,)")
        self.assertEqual(shown(sum_of_products(2, (1,), (1,))), "1")


class WrongSums(unittest.TestCase):
    def test_the_prime_ahead_of_all(self):
        for call in OF_TWO:
            for prime in (None, True, 0, 1, 4, 9, 17, -2, "5", (5,), LONG):
                for others in (((1, 2), (4, 4)), ((), None), (None, None)):
                    self.assertEqual(raised(call, prime, *others), not_usable("prime"))
        for prime in (None, True, 1, 4, "5", LONG):
            for others in ((3, (1, 2)), (None, (1, 2)), (None, None)):
                self.assertEqual(raised(times, prime, *others), not_usable("prime"))

    def test_one_ahead_of_the_other(self):
        for call in OF_TWO:
            for one in (None, 1, "12", (), [1, 2], (1, 5), (1, -1), (1, True), (1, (2,)), (LONG, 1), ("1", 2)):
                for other in ((4, 4), None, ()):
                    self.assertEqual(raised(call, 5, one, other), not_usable("one"))

    def test_the_other_has_the_size_of_one(self):
        for call in OF_TWO:
            for other in (None, 1, (), [4, 4], (4,), (4, 4, 4), (4, 5), (4, True), (4, None), (4, (4,))):
                self.assertEqual(raised(call, 5, (1, 2), other), not_usable("other"))

    def test_digits_of_times(self):
        for digit in (None, True, False, -1, 5, LONG, "1", (1,), [1]):
            for one in ((1, 2), None):
                self.assertEqual(raised(times, 5, digit, one), not_usable("digit"))
        for one in (None, 1, (), [1], (5,), (True,), ((1,),)):
            self.assertEqual(raised(times, 5, 0, one), not_usable("one"))

    def test_lists_behind_a_refused_call_are_as_they_were(self):
        one = [1, 2]
        raised(added, 5, one, one)
        raised(cut, (1, 2), one)
        self.assertEqual(one, [1, 2])


class Places(unittest.TestCase):
    def test_all_small_words(self):
        for prime, size in ((2, 4), (3, 3), (13, 2)):
            for one in all_words(prime, size):
                lot = lot_of(one)
                self.assertEqual(lot, tuple(k for k in range(size) if one[k]))
                self.assertEqual(weight_of(one), len(lot))
                self.assertNotIn(0, cut(one, lot))

    def test_words_cut_to_lots(self):
        chance = chance_of(4)
        for prime in PRIMES:
            for size in (1, 5, 40):
                one, lot = some_word(chance, prime, size), some_lot(chance, size)
                self.assertEqual(cut(one, lot), tuple(one[k] for k in lot))
                self.assertEqual(cut(one, ()), ())
                self.assertEqual(cut(one, tuple(range(size))), one)

    def test_edges(self):
        self.assertEqual(shown(lot_of((0,))), "()")
        self.assertEqual(shown(weight_of((0,) * 40)), "0")
        self.assertEqual(shown(lot_of((12,))), "(0,)")
        self.assertEqual(weight_of((12,) * 40), 40)

    def test_words_are_of_thirteen(self):
        for one in (None, 1, "1", (), [], [1], (13,), (1, -1), (True,), (0, LONG), ((1,),), (None,)):
            self.assertEqual(raised(lot_of, one), not_usable("one"))
            self.assertEqual(raised(weight_of, one), not_usable("one"))
            for lot in ((), (0,), None, (9,)):
                self.assertEqual(raised(cut, one, lot), not_usable("one"))

    def test_lots_are_of_the_words_size(self):
        for lot in (None, 0, "0", [0], (3,), (0, 3), (1, 0), (1, 1), (-1,), (True,), (False, 1), ((0,),), (LONG,)):
            self.assertEqual(raised(cut, (4, 3, 2), lot), not_usable("lot"))
        for lot in ODD:
            if lot not in ((),):
                self.assertEqual(raised(cut, (4,), lot), not_usable("lot"))


if __name__ == "__main__":
    unittest.main()
