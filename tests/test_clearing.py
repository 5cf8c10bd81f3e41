"""[46], [47]: shelves that lie, beside others that are lost."""

import itertools
import unittest

from starshelves.clearing import cleared, clears, liars_in, most_borne
from starshelves.mending import can_mend, mended
from starshelves.stocks import shelves_of
from tests.helper import (
    HALL, KEEP, LONG, NO_LOTS, NO_NUMBERS, ODD, PRIMES, STOCK, all_words, check_refused, lots_below, not_usable, raised,
    rest_of, shown, small_halls, some_halls, some_lot, some_stock, some_word, words_by_hand,
)

TORN = ("Torn", {"ways": ()})
SPOILT = ((0, ((1,), (2,))), (1, ((2,), (0,))), (2, ((3,), (2,))), (3, ((4,), (2,))))
PART = ((1,), (2,))
NO_HELD = (
    *ODD, 5, (), list(SPOILT), ((0, PART), None), ((0, PART), [3, PART]), ((0, PART), (3,)), ((0, PART), (3, PART, 1)),
    ((3, PART), (0, PART)), ((0, PART), (0, PART)), ((0, PART), (4, PART)), ((0, PART), (True, PART)), ((0, PART), (3, ((1,),))),
    ((0, PART), (3, ((1,), (5,)))), ((0, PART), (3, ((1,), (True,)))), ((0, ()), (3, ())), ((0, ((),)), (3, ((),))),
)


def is_torn(words, rest, many):
    """Whether some digits on the rest are held, but for so many places, of two words: by each two words' unlike places."""
    return any(
        sum(one[place] != other[place] for place in rest) <= 2 * many
        for one, other in itertools.combinations(sorted(words), 2)
    )


def spoilt(chance, hall, held, liars):
    """What is held, but that each of the liars holds something else."""
    prime, told = hall[0][0], []
    for shelf, part in held:
        while shelf in liars:
            other = tuple(some_word(chance, prime, len(digits)) for digits in part)
            if other != part:
                part = other
                break
        told.append((shelf, part))
    return tuple(told)


class Borne(unittest.TestCase):
    """[46]."""

    def test_lots_that_can_be_lost_together(self):
        for hall, _ in some_halls(111):
            size = hall[0][1]
            for lot in lots_below(size)[::7]:
                rest, told = rest_of(size, lot), None
                for many in range(size + 2):
                    more = [part for part in lots_below(len(rest)) if len(part) <= 2 * many]
                    fits = all(can_mend(hall, tuple(sorted((*lot, *[rest[k] for k in part])))) for part in more)
                    self.assertIs(clears(hall, lot, many), fits)
                    told = many if fits else told
                self.assertEqual(shown(most_borne(hall, lot)), shown(told))

    def test_lies_can_be_cleared_just_if_no_two_words_are_mistaken(self):
        for hall, _ in small_halls(112):
            words, size = words_by_hand(hall[0]), hall[0][1]
            if len(words) > 130:
                continue
            for lot in lots_below(size):
                for many in range(3):
                    self.assertIs(clears(hall, lot, many), not is_torn(words, rest_of(size, lot), many))

    def test_what_is_held_is_never_that_of_two_words(self):
        for hall, _ in small_halls(113):
            words, (prime, size, _) = words_by_hand(hall[0]), hall[0]
            if prime ** size > 250 or len(words) > 30:
                continue
            for lot in lots_below(size):
                rest = rest_of(size, lot)
                for many in (0, 1, 2):
                    ways = [sum(sum(one[place] != digit for place, digit in zip(rest, digits)) <= many for one in words)
                            for digits in all_words(prime, len(rest))]
                    self.assertIs(clears(hall, lot, many), max(ways) <= 1)

    def test_the_lot_of_all_shelves_and_great_numbers(self):
        for hall, _ in small_halls(114):
            every = tuple(range(hall[0][1]))
            self.assertIsNone(most_borne(hall, every))
            for many in (0, 1, LONG):
                self.assertIs(clears(hall, every, many), False)
            self.assertIs(clears(hall, (), LONG), False)
            self.assertIs(clears(hall, (), hall[0][1]), False)

    def test_five_shelves_of_one_digit(self):
        for prime in PRIMES:
            hall = ((prime, 5, ((1,) * 5,)), (prime, 5, ()))
            self.assertEqual([most_borne(hall, lot) for lot in ((), (0,), (1, 4), (0, 1, 2), (1, 2, 3, 4), (0, 1, 2, 3, 4))],
                             [2, 1, 1, 0, 0, None])
            self.assertEqual([clears(hall, (), many) for many in (0, 1, 2, 3)], [True, True, True, False])

    def test_wrong_values(self):
        check_refused(self, most_borne, (HALL,), {"lot": (0,)}, {"lot": NO_LOTS})
        check_refused(self, clears, (HALL,), {"lot": (0,), "many": 1}, {"lot": NO_LOTS, "many": NO_NUMBERS})
        check_refused(self, clears, (HALL,), {"lot": (0, 1, 2, 3), "many": 1}, {"lot": NO_LOTS, "many": NO_NUMBERS})


class Cleared(unittest.TestCase):
    """[47]."""

    def test_as_many_liars_as_are_borne(self):
        for hall, chance in some_halls(115, 8):
            stock, size = some_stock(chance, hall), hall[0][1]
            lost = some_lot(chance, size) if chance.random() < 0.5 else ()
            most, rest = most_borne(hall, lost), rest_of(size, lost)
            if most is None:
                continue
            held = tuple((shelf, part) for shelf, part in enumerate(shelves_of(hall, stock)) if shelf in rest)
            for many in range(most + 1):
                for liars in range(many + 1):
                    lot = tuple(sorted(chance.sample(rest, liars)))
                    told = spoilt(chance, hall, held, lot)
                    self.assertEqual(shown(cleared(hall, told, many)), shown(stock))
                    self.assertEqual(shown(liars_in(hall, told, many)), shown(lot))
            self.assertEqual(raised(cleared, hall, held, most + 1), not_usable("many"))
            self.assertEqual(raised(liars_in, hall, held, most + 1), not_usable("many"))

    def test_liars_in_one_slot_of_several(self):
        held = ((0, ((1, 2), (2,))), (1, ((2, 2), (2,))), (2, ((3, 2), (2,))), (3, ((4, 2), (2,))))
        stock = (((1, 2, 3, 4), (2, 2, 2, 2)), ((2, 2, 2, 2),))
        for shelf in range(4):
            for part in (((0, 2), (2,)), ((shelf + 1, 3), (2,)), ((shelf + 1, 2), (4,)), ((0, 0), (0,))):
                told = (*held[:shelf], (shelf, part), *held[shelf + 1:])
                self.assertEqual(cleared(HALL, told, 1), stock)
                self.assertEqual(liars_in(HALL, told, 1), (shelf,))
                self.assertEqual(raised(cleared, HALL, told, 0), TORN)
        # Two shelves that each lie at another slot are two liars.
        told = ((0, ((0, 2), (2,))), held[1], held[2], (3, ((4, 2), (1,))))
        self.assertEqual(raised(cleared, HALL, told, 1), TORN)
        self.assertEqual(raised(liars_in, HALL, told, 1), TORN)

    def test_all_digits_of_small_halls(self):
        for hall, _ in small_halls(116):
            words, (prime, size, _) = sorted(words_by_hand(hall[0])), hall[0]
            if prime ** size > 250 or len(words) > 130:
                continue
            for lost in lots_below(size)[:6]:
                rest, most = rest_of(size, lost), most_borne(hall, lost)
                for many in range(0 if most is None else most + 1):
                    for digits in all_words(prime, len(rest)):
                        held = tuple((shelf, ((digit,),)) for shelf, digit in zip(rest, digits))
                        self.check(hall, held, many, words)

    def check(self, hall, held, many, words):
        """Against each word of keep: the liars are the shelves at which it has another digit."""
        liars = {one: tuple(shelf for shelf, part in held if part != ((one[shelf],),)) for one in words}
        fitting = [one for one in words if len(liars[one]) <= many]
        self.assertLessEqual(len(fitting), 1)
        if fitting:
            self.assertEqual(cleared(hall, held, many), ((fitting[0],),))
            self.assertEqual(liars_in(hall, held, many), liars[fitting[0]])
        else:
            self.assertEqual(raised(cleared, hall, held, many), TORN)
            self.assertEqual(raised(liars_in, hall, held, many), TORN)

    def test_without_liars_it_is_as_mended(self):
        for hall, chance in some_halls(117):
            stock, size = some_stock(chance, hall), hall[0][1]
            held = tuple(enumerate(shelves_of(hall, stock)))
            for lot in lots_below(size)[1::6]:
                some = tuple(held[shelf] for shelf in lot)
                if can_mend(hall, rest_of(size, lot)):
                    self.assertEqual(cleared(hall, some, 0), mended(hall, some))
                    self.assertEqual(liars_in(hall, some, 0), ())
                else:
                    self.assertEqual(raised(cleared, hall, some, 0), raised(mended, hall, some))

    def test_one_shelf_and_nothing_held_but_one_shelf(self):
        hall = ((2, 1, ((1,),)), (2, 1, ()))
        self.assertEqual(shown([cleared(hall, ((0, ((1,),)),), 0), liars_in(hall, ((0, ((0,),)),), 0)]), "[(((1,),),), ()]")
        self.assertEqual(raised(cleared, hall, ((0, ((1,),)),), 1), not_usable("many"))
        level = ((7, 4, ((1, 1, 1, 1),)), (7, 4, ()))
        self.assertEqual(cleared(level, ((2, ((3, 5),)),), 0), (((3,) * 4, (5,) * 4),))
        self.assertEqual(raised(cleared, level, ((2, ((3, 5),)),), 1), not_usable("many"))
        self.assertEqual(raised(cleared, HALL, ((2, ((3,),)),), 0), ("Lost", {"within": (1, 3, 0, 2)}))

    def test_wrong_values(self):
        for call in (cleared, liars_in):
            check_refused(self, call, (HALL,), {"held": SPOILT, "many": 1}, {"held": NO_HELD, "many": NO_NUMBERS})

    def test_lost_then_many_then_torn(self):
        two, wrong = ((2, ((3,), (2,))),), (*SPOILT[:2], (2, ((0,), (0,))), SPOILT[3])
        for call in (cleared, liars_in):
            for many in NO_NUMBERS:
                self.assertEqual(raised(call, HALL, two, many), not_usable("many"))
            for many in (0, 1, 2, LONG):
                self.assertEqual(raised(call, HALL, two, many), ("Lost", {"within": (1, 3, 0, 2)}))
            for many in (2, 3, LONG):
                self.assertEqual(raised(call, HALL, wrong, many), not_usable("many"))
            self.assertEqual(raised(call, HALL, wrong, 1), TORN)
            self.assertEqual(raised(call, HALL, wrong[1:], 1), not_usable("many"))
            self.assertEqual(raised(call, HALL, wrong[1:], 0), TORN)

    def test_lost_tells_the_least_word_of_the_lost_lot(self):
        for hall, _ in small_halls(118):
            words, size = words_by_hand(hall[0]), hall[0][1]
            for lot in lots_below(size)[1:]:
                inner = [one for one in words if any(one) and not any(one[place] for place in lot)]
                told = raised(cleared, hall, tuple((shelf, ((0,),)) for shelf in lot), 0)
                self.assertEqual(told, ("Lost", {"within": min(inner)}) if inner else ("no error but", (((0,) * size,),)))

    def test_arguments_stay(self):
        held = [[0, [[1]]]]
        raised(cleared, HALL, held, 0)
        self.assertEqual(held, [[0, [[1]]]])
        self.assertEqual(cleared(held=SPOILT, many=1, hall=HALL), STOCK)
        self.assertEqual(KEEP, HALL[0])


if __name__ == "__main__":
    unittest.main()
