"""[41] to [45]: shelves that are lost, and papers on them."""

import itertools
import unittest

from starshelves.books import checks_of
from starshelves.mendchecker import lets_mend
from starshelves.mending import can_mend, cheapest_menders, distance_of, least_losses, mended, menders_of
from starshelves.stocks import shelves_of
from tests.helper import (
    HALL, LONG, NO_LOTS, NO_SHELVES, ODD, PRIMES, STOCK, all_words, dot, invalid, least, lots_below, not_usable,
    raised, rank_of_rows, rest_of, shown, small_halls, some_halls, some_lot, some_stock, words_by_hand,
)


def mends_by_hand(words, lot, shelf):
    """Whether no word is 0 on the lot and not 0 at the shelf."""
    return not any(one[shelf] != 0 and not any(one[place] for place in lot) for one in words)


class Shelves(unittest.TestCase):
    """[42], held against going through all words and lots."""

    def test_lots_that_can_be_lost(self):
        for hall, _ in small_halls(81):
            words, size = words_by_hand(hall[0]), hall[0][1]
            losses = []
            for lot in lots_below(size):
                told = all(mends_by_hand(words, rest_of(size, lot), shelf) for shelf in lot)
                self.assertIs(can_mend(hall, lot), told)
                if not told:
                    losses.append(lot)
            self.assertEqual(shown(least_losses(hall)), shown(least(losses)))
            self.assertEqual(shown(distance_of(hall)), shown(min(len(lot) for lot in losses)))

    def test_menders(self):
        for hall, chance in small_halls(82):
            words, size = words_by_hand(hall[0]), hall[0][1]
            for shelf in range(size):
                others = [lot for lot in lots_below(size) if shelf not in lot]
                menders = [lot for lot in others if mends_by_hand(words, lot, shelf)]
                self.assertEqual(shown(menders_of(hall, shelf)), shown(least(menders)))
                for most in (0, 2, LONG):
                    prices = tuple(chance.randint(0, most) for _ in range(size))
                    lot = cheapest_menders(hall, shelf, prices)
                    if menders:
                        self.assertIn(lot, menders)
                        told = min(sum(prices[place] for place in part) for part in menders)
                        self.assertEqual(sum(prices[place] for place in lot), told)
                    else:
                        self.assertIsNone(lot)

    def test_shelves_that_are_0_in_all_words_and_that_nothing_mends(self):
        hall = ((3, 4, ((1, 0, 2, 0), (0, 0, 0, 1))), (3, 4, ()))
        self.assertEqual(shown([menders_of(hall, shelf) for shelf in range(4)]), "[((2,),), ((),), ((0,),), ()]")
        self.assertEqual(shown(least_losses(hall)), "((0, 2), (3,))")
        self.assertEqual([distance_of(hall), cheapest_menders(hall, 1, (9,) * 4), cheapest_menders(hall, 3, (0,) * 4)],
                         [1, (), None])
        self.assertEqual([can_mend(hall, lot) for lot in ((), (1,), (0,), (0, 1), (3,), (0, 1, 2, 3))],
                         [True, True, True, True, False, False])
        one = ((2, 1, ((1,),)), (2, 1, ()))
        self.assertEqual([menders_of(one, 0), least_losses(one), distance_of(one), can_mend(one, (0,)), can_mend(one, ())],
                         [(), ((0,),), 1, False, True])

    def test_books_of_all_words(self):
        for prime in PRIMES:
            hall = ((prime, 3, ((1, 0, 0), (0, 1, 0), (0, 0, 1))), (prime, 3, ()))
            self.assertEqual([menders_of(hall, 1), least_losses(hall)], [(), ((0,), (1,), (2,))])

    def test_wrong_values(self):
        for lot in NO_LOTS:
            self.assertEqual(raised(can_mend, HALL, lot), not_usable("lot"))
        for shelf in NO_SHELVES:
            self.assertEqual(raised(menders_of, HALL, shelf), not_usable("shelf"))
            for prices in ((1, 1, 1, 1), None, ()):
                self.assertEqual(raised(cheapest_menders, HALL, shelf, prices), not_usable("shelf"))
        for prices in (*ODD, 5, (), (1, 1, 1), (1,) * 5, [1, 1, 1, 1], (1, 1, 1, -1), (1, 1, 1, True), (1, 1, 1, "1")):
            self.assertEqual(raised(cheapest_menders, HALL, 0, prices), not_usable("prices"))


class Mended(unittest.TestCase):
    """[43]: the stock by what some shelves hold."""

    def test_stocks_by_all_shelves_that_are_enough(self):
        for hall, chance in some_halls(83):
            stock, size = some_stock(chance, hall), hall[0][1]
            held = shelves_of(hall, stock)
            for lot in lots_below(size)[1:][::3]:
                some = tuple((shelf, held[shelf]) for shelf in lot)
                if can_mend(hall, rest_of(size, lot)):
                    self.assertEqual(shown(mended(hall, some)), shown(stock))
                else:
                    self.assertEqual(raised(mended, hall, some)[0], "Lost")

    def test_lost_tells_the_least_word_within(self):
        for hall, _ in small_halls(84):
            words, size = words_by_hand(hall[0]), hall[0][1]
            for lot in lots_below(size)[1:]:
                inner = [one for one in words if any(one) and not any(one[place] for place in lot)]
                for digits in ((((0,),),), (((1,), (0,)),), (((1, 1),),)):
                    told = raised(mended, hall, tuple((shelf, digits[0]) for shelf in lot))
                    if inner:
                        self.assertEqual(shown(told), shown(("Lost", {"within": min(inner)})))
                    else:
                        self.assertNotEqual(told[0], "Lost")

    def test_torn_if_no_stock_has_these_digits(self):
        for hall, _ in small_halls(85):
            words, (prime, size, _) = words_by_hand(hall[0]), hall[0]
            if prime ** size > 700:
                continue
            for lot in lots_below(size)[1:]:
                if not can_mend(hall, rest_of(size, lot)):
                    continue
                found = {tuple(one[place] for place in lot): one for one in words}
                for digits in all_words(prime, len(lot)):
                    held = tuple((shelf, ((digit,), (0,))) for shelf, digit in zip(lot, digits))
                    if digits in found:
                        self.assertEqual(mended(hall, held), ((found[digits],), ((0,) * size,)))
                    else:
                        self.assertEqual(raised(mended, hall, held), ("Torn", {"ways": ()}))

    def test_torn_by_one_of_several_slots(self):
        held = [(shelf, ((digit, digit), (2,))) for shelf, digit in enumerate((1, 2, 3, 4))]
        word = (1, 2, 3, 4)
        self.assertEqual(mended(HALL, tuple(held)), ((word, word), ((2, 2, 2, 2),)))
        for wrong in (((4, 3), (2,)), ((3, 4), (2,)), ((4, 4), (1,))):
            self.assertEqual(raised(mended, HALL, (*held[:3], (3, wrong))), ("Torn", {"ways": ()}))

    def test_held_values_that_are_none(self):
        part = ((1,), (2,))
        odd = (
            *ODD, 5, (), [(0, part), (3, part)], ((0, part), None), ((0, part), [3, part]), ((0, part), (3,)),
            ((0, part), (3, part, 1)), ((3, part), (0, part)), ((0, part), (0, part)), ((0, part), (4, part)),
            ((-1, part), (3, part)), ((0, part), (True, part)), ((False, part), (3, part)), ((0, part), ("3", part)),
            ((0, part), (3, ((1,),))), ((0, part), (3, ((1, 1), (2,)))), ((0, part), (3, ((1,), (2,), (3,)))),
            ((0, ()), (3, ())), ((0, ((),)), (3, ((),))), ((0, ((1,), ())), (3, ((1,), ()))), ((0, part), (3, ((1,), (5,)))),
            ((0, part), (3, ((1,), (True,)))), ((0, part), (3, ((1,), (-1,)))), ((0, part), (3, [(1,), (2,)])),
            ((0, part), (3, ([1], (2,)))), ((0, part), (3, (1, 2))), ((0, part), (3, None)), (0, part),
            ((2, ((3,), (5,))),), ((2, ((3,), 2)),), ((LONG, part),),
        )
        for held in odd:
            self.assertEqual(raised(mended, HALL, held), not_usable("held"))

    def test_lost_is_ahead_of_torn(self):
        hall = ((5, 4, ((1, 1, 0, 0), (0, 0, 1, 2))), (5, 4, ()))
        self.assertEqual(raised(mended, hall, ((0, ((1,),)), (1, ((2,),)))), ("Lost", {"within": (0, 0, 1, 2)}))
        self.assertEqual(raised(mended, hall, ((0, ((1,),)), (1, ((2,),)), (3, ((0,),)))), ("Torn", {"ways": ()}))


class Papers(unittest.TestCase):
    """[44]: the judge of papers."""

    def test_all_checks_of_small_halls(self):
        for hall, _ in small_halls(86):
            (prime, size, _), lots = hall[0], lots_below(hall[0][1])
            if prime ** size > 130:
                continue
            checks = words_by_hand(checks_of(hall[0]))
            for lot in lots:
                told = [[one for one in checks if tuple(one[place] for place in lot) == unit]
                        for unit in (tuple(int(k == j) for j in range(len(lot))) for k in range(len(lot)))]
                self.assertEqual(all(told), can_mend(hall, lot))
                for paper in itertools.islice(itertools.product(*told), 5):
                    self.assertIs(lets_mend(hall, lot, ("mends", paper)), True)
            for one in all_words(prime, size):
                if one not in checks:
                    self.assertEqual(raised(lets_mend, hall, (0,), ("mends", (one,))), invalid("check", 0))
                elif one[0] != 1:
                    self.assertEqual(raised(lets_mend, hall, (0,), ("mends", (one,))), invalid("place", 0))
                else:
                    self.assertIs(lets_mend(hall, (0,), ("mends", (one,))), True)

    def test_all_lost_words_of_small_halls(self):
        for hall, _ in small_halls(87):
            prime, size, _ = hall[0]
            if prime ** size > 130:
                continue
            words = words_by_hand(hall[0])
            for lot in lots_below(size):
                for one in all_words(prime, size):
                    inside = all(one[place] == 0 for place in rest_of(size, lot))
                    if one not in words or not any(one):
                        self.assertEqual(raised(lets_mend, hall, lot, ("lost", one)), invalid("word"))
                    elif not inside:
                        self.assertEqual(raised(lets_mend, hall, lot, ("lost", one)), invalid("within"))
                    else:
                        self.assertIs(lets_mend(hall, lot, ("lost", one)), False)
                        self.assertIs(can_mend(hall, lot), False)

    def test_lots_that_are_none_ahead_of_all(self):
        for lot in NO_LOTS:
            for thing in (("mends", ()), None, ("lost", (1, 2, 3, 4))):
                self.assertEqual(raised(lets_mend, HALL, lot, thing), not_usable("lot"))

    def refused(self, lot, thing, word, at=-1):
        self.assertEqual(raised(lets_mend, HALL, lot, thing), invalid(word, at))

    def test_shape(self):
        for thing in (*ODD, 5, (), "mends", ("mends",), ("lost",), ("mends", (), ()), ("lost", (1, 2, 3, 4), ()), ["mends", ()],
                      ["lost", (1, 2, 3, 4)], ("mend", ()), ("Lost", (1, 2, 3, 4)), ("mends", []), ("mends", None),
                      ("mends", "1 0"), (True, ()), (1, ()), (("mends",), ()), ((), "mends")):
            for lot in ((), (0, 1)):
                self.refused(lot, thing, "shape")

    def test_many_check_place(self):
        checks = ((1, 0, 2, 2), (0, 1, 3, 1))
        self.assertIs(lets_mend(HALL, (0, 1), ("mends", checks)), True)
        self.assertIs(lets_mend(HALL, (), ("mends", ())), True)
        for wrong in ((), checks[:1], checks + checks[:1], (None,), (None,) * 3):
            self.refused((0, 1), ("mends", wrong), "many")
        self.refused((), ("mends", checks[:1]), "many")
        no_checks = (None, 1, "1 0 2 2", [1, 0, 2, 2], (1, 0, 2), (1, 0, 2, 2, 0), (1, 0, 2, 5), (1, 0, 2, 1), (True, 0, 2, 2),
                     (1, False, 2, 2), (1, 2, 3, 3))
        for wrong in no_checks:
            self.refused((0, 1), ("mends", (wrong, None)), "check", 0)
            self.refused((0, 1), ("mends", (checks[0], wrong)), "check", 1)
        for wrong in ((2, 0, 4, 4), (0, 0, 0, 0), (1, 1, 0, 3), (0, 1, 3, 1)):
            self.refused((0, 1), ("mends", (wrong, None)), "place", 0)
        for wrong in ((0, 2, 1, 2), (0, 0, 0, 0), (1, 1, 0, 3), (1, 0, 2, 2)):
            self.refused((0, 1), ("mends", (checks[0], wrong)), "place", 1)
        self.refused((0, 1), ("mends", checks[::-1]), "place", 0)

    def test_word_and_within(self):
        for word in (None, 1, "lost", (), [2, 1, 0, 4], (2, 1, 0), (2, 1, 0, 4, 0), (2, 1, 0, 5), (2, 1, 0, 3), (2, True, 0, 4),
                     (0, 0, 0, 0), (1, 0, 0, 0)):
            for lot in ((0, 1, 3), ()):
                self.refused(lot, ("lost", word), "word")
        for lot in ((), (0, 1), (0, 1, 2), (1, 2, 3), (0, 2, 3)):
            self.refused(lot, ("lost", (2, 1, 0, 4)), "within")
        for lot in ((0, 1, 3), (0, 1, 2, 3)):
            self.assertIs(lets_mend(HALL, lot, ("lost", (2, 1, 0, 4))), False)

    def test_mending_by_the_checks_of_a_paper(self):
        held = shelves_of(HALL, STOCK)
        for lot, checks in (((0, 1), ((1, 0, 2, 2), (0, 1, 3, 1))), ((2,), ((1, 3, 1, 0),))):
            self.assertIs(lets_mend(HALL, lot, ("mends", checks)), True)
            for shelf, check in zip(lot, checks):
                for file in range(2):
                    others = [0 if place in lot else held[place][file][0] for place in range(4)]
                    self.assertEqual(-dot(5, check, others) % 5, held[shelf][file][0])


class Consequences(unittest.TestCase):
    """[45], at many inputs."""

    def test_parts_of_lots_that_can_be_lost(self):
        for hall, _ in some_halls(88):
            losses = least_losses(hall)
            for lot in lots_below(hall[0][1]):
                if can_mend(hall, lot):
                    self.assertTrue(all(can_mend(hall, part) for part in itertools.combinations(lot, max(0, len(lot) - 1))))
                self.assertEqual(can_mend(hall, lot), not any(set(loss) <= set(lot) for loss in losses))

    def test_shelves_of_their_own(self):
        for hall, _ in some_halls(89):
            for shelf in range(hall[0][1]):
                nought = not any(row[shelf] for row in hall[0][2])
                menders = menders_of(hall, shelf)
                self.assertEqual(menders == ((),), nought)
                self.assertEqual(menders == (), (shelf,) in least_losses(hall))

    def test_lots_of_fewer_shelves_than_the_distance(self):
        for hall, chance in some_halls(90):
            stock, size = some_stock(chance, hall), hall[0][1]
            held = shelves_of(hall, stock)
            for lot in lots_below(size):
                if len(lot) < distance_of(hall):
                    self.assertIs(can_mend(hall, lot), True)
                    if len(lot) < size and chance.random() < 0.3:
                        some = tuple((shelf, held[shelf]) for shelf in rest_of(size, lot))
                        self.assertEqual(mended(hall, some), stock)

    def test_a_lot_that_mends_has_one_of_the_menders(self):
        for hall, chance in some_halls(91):
            size = hall[0][1]
            for shelf in range(size):
                lot = tuple(place for place in some_lot(chance, size) if place != shelf)
                some = any(set(part) <= set(lot) for part in menders_of(hall, shelf))
                less, more = [[[row[place] for place in part] for row in hall[0][2]] for part in (lot, (*lot, shelf))]
                self.assertEqual(some, rank_of_rows(hall[0][0], less) == rank_of_rows(hall[0][0], more))


if __name__ == "__main__":
    unittest.main()
