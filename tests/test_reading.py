"""[61] to [63], [65], [66] and (G3) of [10]: who reads, and some plan of the marks of a book."""

import unittest

from starshelves.books import checks_of, is_part, star_of
from starshelves.kinds import is_book
from starshelves.readchecker import lets_read
from starshelves.reading import blind_book, read_numbers, reads, told_rank, told_sums
from starshelves.someplans import some_plan_reads
from tests.helper import (
    HALL, HIDE, KEEP, NO_BOOKS, NO_LOTS, NO_PLANS, ODD, PRIMES, all_words, check_refused, dot, fields_of, great_plans,
    is_blind_by_hand, leads_by_hand, lies_within, lots_below, plus, rank_of_rows, rest_of, sent_answers, shown, some_book,
    some_halls, some_lot, some_plan, some_plans, some_silences, some_slot, some_stock, some_word, some_word_in, star_by_hand, tiny_halls,
    times_by_hand, words_by_hand,
)

ONE, ONES = ((1, 1, 0, 0),), ((1, 0, 0, 0), (0, 1, 0, 0), (0, 0, 1, 0))
NO_SILENCES = (
    *ODD, 5, (), [()], ((), ()), ((), (), ()), (0,), ([0],), ((4,),), ((1, 0),), ((0, 0),), ((-1,),), ((True,),), (("0",),), (((0,),),),
    "()",
)
REFUSED = {"plan": NO_PLANS, "silences": NO_SILENCES}


def unreadable(call, *given):
    """The fields of Unreadable that a call raises; None if it raises nothing."""
    try:
        call(*given)
    except ValueError as error:
        assert error.__class__.__name__ == "Unreadable", error
        return fields_of(error)
    return None


class Blind(unittest.TestCase):
    """[62], held against each word of keep and each word of the star."""

    def check(self, hall, plan, silences):
        """What is blind, told and read, by going through all words."""
        (prime, size, rows), stars = hall[0], star_by_hand(hall)
        blind = {one for one in words_by_hand(hall[0]) if is_blind_by_hand(hall, plan, silences, one, stars)}
        book, told = blind_book(hall, plan, silences), told_sums(hall, plan, silences)
        self.assertTrue(is_book(book) and is_book(told))
        self.assertEqual([book[:2], told[:2]], [(prime, size), (prime, len(rows))])
        self.assertEqual(words_by_hand(book), blind)
        leads = [tuple(one[place] for place in leads_by_hand(hall[0])) for one in blind]
        sums = {word for word in all_words(prime, len(rows)) if not any(dot(prime, word, digits) for digits in leads)}
        self.assertEqual(words_by_hand(told), sums)
        self.assertIs(reads(hall, plan, silences), len(blind) == 1)
        self.assertEqual(shown(told_rank(hall, plan, silences)), shown(len(rows) - len(book[2])))
        return len(blind) == 1

    def test_small_halls(self):
        told = [self.check(hall, plan, silences) for hall, plan, silences, _ in some_plans(191, 60, 3)]
        self.assertTrue(20 < sum(told) < len(told) - 20)

    def test_all_marks_and_silent_lots_of_small_halls(self):
        for hall in (((2, 3, ((1, 0, 1), (0, 1, 1))), (2, 3, ())), ((2, 3, ((1, 0, 1), (0, 1, 1))), (2, 3, ((0, 1, 0),))),
                     ((3, 2, ((1, 0), (0, 1))), (3, 2, ())), ((3, 2, ((1, 2),)), (3, 2, ((1, 1),)))):
            for mark in all_words(*hall[0][:2]):
                for lot in lots_below(hall[0][1]):
                    self.check(hall, (mark,), (lot,))

    def test_eight_rounds_unlike_silences(self):
        for hall, chance in tiny_halls(192, 30, 1):
            plan = tuple(some_word(chance, *hall[0][:2]) for _ in range(8))
            lots = tuple(some_lot(chance, hall[0][1]) for _ in range(8))
            self.check(hall, plan, lots)

    def test_all_shelves_silent_and_none(self):
        for hall, plan, _, _ in great_plans(193):
            every = (tuple(range(hall[0][1])),) * len(plan)
            self.assertEqual(shown(blind_book(hall, plan, every)), shown(hall[0]))
            self.assertEqual(told_sums(hall, plan, every), (hall[0][0], len(hall[0][2]), ()))
            self.assertEqual([told_rank(hall, plan, every), reads(hall, plan, every)], [0, False])

    def test_hide_without_rows_and_with_all_words(self):
        for prime in PRIMES:
            keep = (prime, 3, ((1, 0, prime - 1), (0, 1, 1)))
            none, every = (keep, (prime, 3, ())), (keep, (prime, 3, ((1, 0, 0), (0, 1, 0), (0, 0, 1))))
            self.assertIs(reads(none, ((1, 1, 0),), ((),)), True)
            self.assertIs(reads(none, ((1, 1, 0),), ((0,),)), False)
            self.assertEqual([told_rank(none, ((1, 1, 0),), ((0,),)), told_rank(every, ((1, 1, 1),), ((),))], [1, 0])
            self.assertEqual(blind_book(every, ((1, 1, 1),) * 2, ((),) * 2), keep)

    def test_marks_of_noughts(self):
        for hall, chance in some_halls(194):
            noughts = ((0,) * hall[0][1],) * 2
            self.assertEqual([told_rank(hall, noughts, ((), ())), blind_book(hall, noughts, ((), ()))], [0, hall[0]])

    def test_wrong_values(self):
        for call in (reads, blind_book, told_rank, told_sums, read_numbers):
            check_refused(self, call, (HALL,), {"plan": ONE, "silences": ((),)}, REFUSED)
            odd = {"silences": (((),), ((), ()), ((),) * 4, ((), (), (4,)), ((), (), None), [(), (), ()])}
            check_refused(self, call, (HALL,), {"plan": ONES, "silences": ((), (), ())}, odd)


class Numbers(unittest.TestCase):
    """[63]: any read-numbers are right, and any words alike."""

    def check_numbers(self, hall, plan, silences, numbers):
        prime, size, rows = hall[0]
        self.assertIsInstance(numbers, tuple)
        self.assertEqual(len(numbers), len(rows))
        stars = star_of(*hall)[2]
        for k, words in enumerate(numbers):
            self.assertIsInstance(words, tuple)
            self.assertEqual(len(words), len(plan))
            for word, silent in zip(words, silences):
                self.assertTrue(isinstance(word, tuple) and len(word) == size and all(digit in range(prime) for digit in word))
                self.assertTrue(lies_within(word, rest_of(size, silent)))
                self.assertFalse(any(dot(prime, word, star) for star in stars))
            for j, row in enumerate(rows):
                told = sum(dot(prime, word, times_by_hand(prime, mark, row)) for word, mark in zip(words, plan)) % prime
                self.assertEqual(told, int(j == k))

    def check_alike(self, hall, plan, silences, fields):
        self.assertEqual(list(fields), ["alike"])
        word, stars = fields["alike"]
        prime, rows, star = hall[0][0], hall[0][2], star_of(*hall)[2]
        self.assertTrue(any(word))
        self.assertEqual(rank_of_rows(prime, [*rows, word]), len(rows))
        self.assertIsInstance(stars, tuple)
        self.assertEqual(len(stars), len(plan))
        for one, mark, silent in zip(stars, plan, silences):
            self.assertEqual(rank_of_rows(prime, [*star, one]), len(star))
            self.assertTrue(lies_within(plus(prime, one, times_by_hand(prime, word, mark)), silent))

    def test_numbers_or_words_alike(self):
        told = []
        for hall, plan, silences, _ in [*some_plans(195, 700, 4), *great_plans(196, 8)]:
            fields = unreadable(read_numbers, hall, plan, silences)
            self.assertIs(reads(hall, plan, silences), fields is None)
            if fields is None:
                numbers = read_numbers(hall, plan, silences)
                self.check_numbers(hall, plan, silences, numbers)
                self.assertIs(lets_read(hall, plan, silences, ("read", numbers)), True)
            else:
                self.check_alike(hall, plan, silences, fields)
                self.assertIs(lets_read(hall, plan, silences, ("blind", *fields["alike"])), False)
            told.append(fields is None)
        self.assertTrue(40 < sum(told) < len(told) - 40)

    def test_digits_are_read_by_drawn_stocks_and_covers(self):
        many = 0
        for hall, plan, silences, chance in [*some_plans(197, 700, 3), *great_plans(198, 6)]:
            if not reads(hall, plan, silences):
                continue
            numbers, leads, many = read_numbers(hall, plan, silences), leads_by_hand(hall[0]), many + 1
            for _ in range(3):
                stock = some_stock(chance, hall)
                at, row = some_slot(chance, stock)
                answers = sent_answers(hall, stock, (at, row), plan, silences, chance)
                for words, lead in zip(numbers, leads):
                    told = sum(words[i][shelf] * digit for i, part in enumerate(answers) for shelf, digit in part)
                    self.assertEqual(told % hall[0][0], stock[at][row][lead])
        self.assertGreater(many, 30)

    def test_all_shelves_silent(self):
        for hall, plan, _, _ in great_plans(199):
            every = (tuple(range(hall[0][1])),) * len(plan)
            self.check_alike(hall, plan, every, unreadable(read_numbers, hall, plan, every))

    def test_wrong_values_are_ahead_of_unreadable(self):
        check_refused(self, read_numbers, (HALL,), {"plan": ((0, 0, 0, 0),), "silences": ((0, 1, 2, 3),)}, REFUSED)


class SomePlans(unittest.TestCase):
    """[66] and (G3)."""

    def test_all_marks_of_the_book_at_once(self):
        told = []
        for hall, chance in tiny_halls(201, 130, 8):
            book = some_book(chance, *hall[0][:2])
            every = tuple(sorted(words_by_hand(book)))
            for lot in ((), some_lot(chance, hall[0][1]), (0,)):
                told.append(some_plan_reads(hall, book, lot))
                self.assertIs(told[-1], reads(hall, every, (lot,) * len(every)))
                self.assertIs(told[-1], len(book[2]) > 0 and reads(hall, book[2], (lot,) * len(book[2])))
        self.assertTrue(30 < sum(told) < len(told) - 30, (sum(told), len(told)))

    def test_plans_that_read_and_plans_of_few_marks(self):
        for hall, chance in some_halls(202, 5):
            book, lot = some_book(chance, *hall[0][:2]), some_lot(chance, hall[0][1])[:1]
            plan = tuple(some_word_in(chance, book) for _ in range(4))
            self.assertTrue(some_plan_reads(hall, book, lot) or not reads(hall, plan, (lot,) * 4))

    def test_books_without_rows_and_of_words_of_hide(self):
        for hall, _ in some_halls(203):
            self.assertIs(some_plan_reads(hall, (*hall[0][:2], ()), ()), False)
            self.assertIs(some_plan_reads(hall, hall[1], ()), False)

    def test_all_marks_and_silent_lots(self):
        every = (5, 4, tuple(tuple(int(j == k) for j in range(4)) for k in range(4)))
        told = [lot for lot in lots_below(4) if some_plan_reads(HALL, every, lot)]
        self.assertEqual(told, [lot for lot in lots_below(4) if len(lot) < 2])

    def test_wrong_values(self):
        odd = {"book": (*NO_BOOKS, None), "silent": NO_LOTS}
        check_refused(self, some_plan_reads, (HALL,), {"book": KEEP, "silent": (3,)}, odd)
        check_refused(self, some_plan_reads, (HALL,), {"book": (5, 4, ()), "silent": ()}, odd)
        self.assertIs(some_plan_reads(hall=HALL, silent=(), book=HIDE), False)


class Consequences(unittest.TestCase):
    """[65], at many inputs."""

    def test_ranks(self):
        for hall, plan, silences, _ in great_plans(204, 5):
            book = blind_book(hall, plan, silences)
            self.assertIs(reads(hall, plan, silences), len(book[2]) == 0)
            self.assertEqual(told_rank(hall, plan, silences), len(told_sums(hall, plan, silences)[2]))
            self.assertEqual(told_rank(hall, plan, silences), len(hall[0][2]) - len(book[2]))
            self.assertTrue(is_part(book, hall[0]))

    def test_rounds_more_and_fewer_silent_shelves_tell_no_less(self):
        for hall, plan, silences, chance in great_plans(205, 5, 4):
            told = told_sums(hall, plan, silences)
            more = some_plan(chance, hall)
            lots = some_silences(chance, hall, more)
            self.assertTrue(is_part(told, told_sums(hall, plan + more, silences + lots)))
            self.assertTrue(is_part(told, told_sums(hall, more + plan, lots + silences)))
            fewer = tuple(tuple(shelf for shelf in lot if chance.random() < 0.5) for lot in silences)
            self.assertTrue(is_part(told, told_sums(hall, plan, fewer)))

    def test_marks_times_a_digit_or_with_words_of_hide(self):
        for hall, plan, silences, chance in great_plans(206, 5, 4):
            prime, other = hall[0][0], []
            for mark in plan:
                digit = chance.randrange(1, prime)
                other.append(plus(prime, some_word_in(chance, hall[1]), mark, digit))
            self.assertEqual(told_sums(hall, tuple(other), silences), told_sums(hall, plan, silences))
            self.assertEqual(blind_book(hall, tuple(other), silences), blind_book(hall, plan, silences))
            words = tuple(some_word_in(chance, hall[1]) for _ in plan)
            self.assertEqual(told_rank(hall, words, silences), 0)

    def test_the_order_of_rounds_does_not_count(self):
        for hall, plan, silences, _ in great_plans(207, 4, 5):
            self.assertEqual(told_sums(hall, plan[::-1], silences[::-1]), told_sums(hall, plan, silences))

    def test_what_the_sums_check_are_the_lead_digits_of_blind_words(self):
        for hall, plan, silences, _ in great_plans(208, 4, 3):
            leads = [tuple(row[place] for place in leads_by_hand(hall[0])) for row in blind_book(hall, plan, silences)[2]]
            checks = checks_of(told_sums(hall, plan, silences))
            self.assertEqual(rank_of_rows(hall[0][0], [*checks[2], *leads]), len(leads))
            self.assertEqual(len(checks[2]), len(leads))


if __name__ == "__main__":
    unittest.main()
