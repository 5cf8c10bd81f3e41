"""[93], [94]: what letters tell back, held against going through all covers of small halls."""

import itertools
import unittest

from starshelves.asking import letters_of
from starshelves.seeing import learns
from starshelves.sums import weighed_letters
from starshelves.tellback import asked_slots, mark_by, weights_by
from tests.helper import (
    HALL, LONG, NO_LOTS, NO_WORDS, ODD, PRIMES, all_words, check_refused, cut_by_hand, not_usable, raised, shown, some_covers, some_halls, some_lot,
    some_slot, some_stock, some_word, some_word_in, tiny_halls, words_by_hand,
)

SEEN = (((3,), (0,)), ((3,), (4,)))
MARK = (1, 1, 0, 0)
# What are no letters to the lot (0, 2) of the examples.
NO_LETTERS = (
    *[thing for thing in ODD if thing not in ()], 5, (), SEEN[:1], (*SEEN, SEEN[0]), list(SEEN), ([(3,), (0,)], ((3,), (4,))), (((3,), (0,)), ((3,), (5,))),
    (((3,), (0,)), ((3,), (True,))), (((3,), (0,)), ((3,),)), (((3,), (0,)), ((3,), (4, 0))), (((3,), ()), ((3,), ())), ((), ()), (((3,), (0,)), None),
    (((3,), (0,)), ((3,), (-1,))), (((3,), (0,)), (3, 4)), (((3,), (LONG,)), ((3,), (4,))),
)
NO_SLOTS = (*[thing for thing in ODD if thing != (-1, 0)], 5, (), (0,), (0, 0, 0), [0, 0], (2, 0), (0, 1), (-1, 0), (True, 0), (0, False), (0, None), "00")
REFUSED = {"mark": NO_WORDS, "lot": ((), *[lot for lot in NO_LOTS]), "letters": NO_LETTERS, "slot": NO_SLOTS}


def slots_by_shape(letter):
    """All slots of the shape of a letter."""
    return [(at, row) for at, digits in enumerate(letter) for row in range(len(digits))]


def digits_at(letters, slot):
    """What the letters have at the slot."""
    return tuple(letter[slot[0]][slot[1]] for letter in letters)


def seen_by_hand(hall, lot):
    """All tuples of digits that covers bring to the lot at a slot, by going through all words of hide."""
    return cut_by_hand(words_by_hand(hall[1]), lot)


def with_mark(prime, cover, mark, lot, weight):
    """The digits of a cover on the lot, with the mark added times the weight."""
    return tuple((digit + weight * mark[place]) % prime for digit, place in zip(cover, lot))


def fits(hall, lot, covers, mark, digits, weight):
    """Whether some cover brings these digits, by going through all."""
    return any(with_mark(hall[0][0], cover, mark, lot, weight) == digits for cover in covers)


def some_letters(chance, hall, lot):
    """Letters to a lot: for an ask, for weights, or any, with the slot and the mark; now and then one of noughts or of hide."""
    prime, size, _ = hall[0]
    stock = some_stock(chance, hall)[:2]
    mark = chance.choice((some_word(chance, prime, size), some_word(chance, prime, size), some_word_in(chance, hall[1]), (0,) * size))
    slot, covers = some_slot(chance, stock), some_covers(chance, hall, stock)
    kind = chance.choice(("ask", "ask", "weights", "any"))
    if kind == "ask":
        letters = letters_of(hall, stock, (slot, mark), covers)
    elif kind == "weights":
        letters = weighed_letters(hall, covers, tuple(tuple(chance.randrange(prime) for _ in file) for file in stock), mark)
    else:
        letters = tuple(tuple(tuple(chance.randrange(prime) for _ in file) for file in stock) for _ in range(size))
    return kind, tuple(letters[shelf] for shelf in lot), slot, mark


def drawn(seed, most=130, many=4):
    """Tiny halls, each with a lot that is not empty and letters to it."""
    for hall, chance in tiny_halls(seed, most, many):
        lot = some_lot(chance, hall[0][1]) or (chance.randrange(hall[0][1]),)
        yield (hall, lot, *some_letters(chance, hall, lot))


class ToldBack(unittest.TestCase):
    """[93]."""

    def test_asked_slots(self):
        seen = set()
        for hall, lot, kind, letters, _, mark in [*drawn(441), *drawn(442)]:
            covers, slots = seen_by_hand(hall, lot), slots_by_shape(letters[0])
            told = tuple(
                slot for slot in slots
                if all(fits(hall, lot, covers, mark, digits_at(letters, other), int(other == slot)) for other in slots)
            )
            self.assertEqual(shown(asked_slots(hall, mark, lot, letters)), shown(told))
            seen.add((kind, min(len(told), 2)))
        self.assertLessEqual({("ask", 1), ("ask", 2), ("weights", 0), ("weights", 1), ("any", 0), ("any", 2)}, seen)

    def test_weights_by(self):
        seen = set()
        for hall, lot, kind, letters, _, mark in [*drawn(443), *drawn(444)]:
            prime, covers = hall[0][0], seen_by_hand(hall, lot)
            found = weights_by(hall, mark, lot, letters)
            can = all(any(fits(hall, lot, covers, mark, digits_at(letters, slot), weight) for weight in range(prime))
                      for slot in slots_by_shape(letters[0]))
            self.assertEqual(found is not None, can)
            if found is not None:
                self.assertEqual([[len(own) for own in found], found.__class__], [[len(own) for own in letters[0]], tuple])
                for at, row in slots_by_shape(letters[0]):
                    self.assertIs(found[at][row].__class__, int)
                    self.assertTrue(0 <= found[at][row] < prime)
                    self.assertTrue(fits(hall, lot, covers, mark, digits_at(letters, (at, row)), found[at][row]))
            seen.add((kind, can))
        self.assertEqual(seen, {("ask", True), ("weights", True), ("any", True), ("any", False)})

    def test_mark_by_tells_the_least_mark(self):
        seen = set()
        for hall, lot, kind, letters, slot, _ in [*drawn(445, 60), *drawn(446, 60)]:
            prime, size, _ = hall[0]
            covers = seen_by_hand(hall, lot)
            for slot in {slot, (0, 0)}:
                others = [other for other in slots_by_shape(letters[0]) if other != slot]
                can = all(digits_at(letters, other) in covers for other in others)
                marks = [mark for mark in all_words(prime, size) if fits(hall, lot, covers, mark, digits_at(letters, slot), 1)] if can else []
                self.assertEqual(shown(mark_by(hall, lot, letters, slot)), shown(marks[0] if marks else None))
                seen.add((kind, can))
        self.assertLessEqual({("ask", True), ("ask", False), ("any", True), ("any", False)}, seen)

    def test_letters_of_one_slot(self):
        for hall, lot, _, letters, _, mark in drawn(447, 60):
            one = tuple(((digits_at(letters, (0, 0))[k],),) for k in range(len(lot)))
            covers = seen_by_hand(hall, lot)
            fit = fits(hall, lot, covers, mark, digits_at(letters, (0, 0)), 1)
            self.assertEqual(asked_slots(hall, mark, lot, one), ((0, 0),) if fit else ())
            # Of one slot there is always such a mark.
            self.assertIsNotNone(mark_by(hall, lot, one, (0, 0)))

    def test_letters_that_no_covers_bring(self):
        hall = (HALL[0], (5, 4, ()))
        letters = (((1,), (2,)), ((1,), (2,)))
        self.assertEqual([asked_slots(hall, MARK, (0, 2), letters), weights_by(hall, MARK, (0, 2), letters)], [(), None])
        self.assertEqual([mark_by(hall, (0, 2), letters, slot) for slot in ((0, 0), (1, 0))], [None, None])
        self.assertEqual(mark_by(hall, (0, 2), (((1,),), ((4,),)), (0, 0)), (1, 0, 4, 0))

    def test_great_halls(self):
        for hall, chance in some_halls(448, 6):
            lot = some_lot(chance, hall[0][1]) or (0,)
            kind, letters, slot, mark = some_letters(chance, hall, lot)
            if kind == "ask":
                self.assertIn(slot, asked_slots(hall, mark, lot, letters))
                found = mark_by(hall, lot, letters, slot)
                self.assertIn(slot, asked_slots(hall, found, lot, letters))
                self.assertLessEqual(found, tuple(digit if place in lot else 0 for place, digit in enumerate(mark)))
            if kind != "any":
                self.assertIsNotNone(weights_by(hall, mark, lot, letters))

    def test_wrong_values(self):
        given = {"mark": MARK, "lot": (0, 2), "letters": SEEN}
        check_refused(self, asked_slots, (HALL,), given, REFUSED)
        check_refused(self, weights_by, (HALL,), given, REFUSED)
        check_refused(self, mark_by, (HALL,), {"lot": (0, 2), "letters": SEEN, "slot": (1, 0)}, REFUSED)
        self.assertEqual(raised(asked_slots, HALL, MARK, (), ()), not_usable("lot"))
        self.assertEqual(raised(mark_by, HALL, (0,), SEEN[:1], (1, 1)), not_usable("slot"))
        self.assertEqual(raised(mark_by, HALL, (0, 2), (((3, 1),), ((3, 4),)), (1, 0)), not_usable("slot"))
        self.assertEqual(raised(weights_by, HALL, MARK, (0,), SEEN), not_usable("letters"))


class Consequences(unittest.TestCase):
    """[94], at many inputs."""

    def test_slots_and_weights_by_who_learns(self):
        seen = set()
        for hall, lot, _, letters, _, mark in [*drawn(451), *drawn(452)]:
            slots, learned = asked_slots(hall, mark, lot, letters), learns(hall, mark, lot)
            if learned:
                self.assertLessEqual(len(slots), 1)
            else:
                self.assertIn(slots, ((), tuple(slots_by_shape(letters[0]))))
            seen.add((learned, min(len(slots), 2)))
            covers, prime = seen_by_hand(hall, lot), hall[0][0]
            for slot in slots_by_shape(letters[0]):
                many = sum(fits(hall, lot, covers, mark, digits_at(letters, slot), weight) for weight in range(prime))
                self.assertIn(many, (0, 1) if learned else (0, prime))
        self.assertLessEqual({(True, 0), (True, 1), (False, 0), (False, 1), (False, 2)}, seen)

    def test_the_slot_asked_for_is_always_among_them(self):
        for hall, lot, kind, letters, slot, mark in [*drawn(453), *drawn(454)]:
            if kind == "ask":
                self.assertIn(slot, asked_slots(hall, mark, lot, letters))

    def test_mark_by_is_0_off_the_lot_and_differs_by_a_word_of_hide_on_it(self):
        for hall, lot, kind, letters, slot, mark in [*drawn(455), *drawn(456)]:
            if kind != "ask":
                continue
            prime, size, _ = hall[0]
            found = mark_by(hall, lot, letters, slot)
            self.assertTrue(all(found[place] == 0 for place in range(size) if place not in lot))
            less = tuple((mark[place] - found[place]) % prime for place in lot)
            self.assertIn(less, seen_by_hand(hall, lot))

    def test_all_covers_of_all_stocks_of_two_slots(self):
        for hall, chance in tiny_halls(457, 9):
            prime, size, _ = hall[0]
            words, mark = sorted(words_by_hand(hall[1])), some_word(chance, prime, size)
            stock = (((0,) * size, (0,) * size),)
            lot = some_lot(chance, size) or (0,)
            for covers in itertools.product(words, repeat=2):
                letters = letters_of(hall, stock, ((0, 1), mark), (covers,))
                cut = tuple(letters[shelf] for shelf in lot)
                told = asked_slots(hall, mark, lot, cut)
                self.assertEqual(told, ((0, 1),) if learns(hall, mark, lot) else ((0, 0), (0, 1)))

    def test_all_primes(self):
        for prime in PRIMES:
            hall = ((prime, 2, ((1, 1),)), (prime, 2, ((1, 1),)))
            letters = (((1,), (0,)), ((0,), (0,)))
            self.assertEqual(asked_slots(hall, (1, 0), (0, 1), letters), ((0, 0),))
            self.assertEqual(weights_by(hall, (1, 0), (0, 1), letters), ((1,), (0,)))
            self.assertEqual(mark_by(hall, (0, 1), letters, (0, 0)), (0, prime - 1))


if __name__ == "__main__":
    unittest.main()
