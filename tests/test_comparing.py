"""[91]: halls compared."""

import itertools
import unittest

from starshelves.comparing import never_worse, worse_at
from starshelves.hallchanges import scaled
from starshelves.rounds import least_rounds
from tests.helper import (
    HALL, HIDE, KEEP, ODD, PRIMES, chance_of, check_refused, cut_by_hand, is_free_by_rows, lies_within, lots_below, not_usable, raised, rank_of_rows, rest_of,
    shown, some_book, tiny_halls, words_by_hand,
)

OPEN = (KEEP, (5, 4, ()))
NO_HALLS = (
    *ODD, 5, (), KEEP, (KEEP,), (KEEP, HIDE, HIDE), [KEEP, HIDE], (KEEP, None), (None, HIDE), ((5, 4, ()), HIDE), (KEEP, (5, 3, ())), (KEEP, (7, 4, ())),
    (list(KEEP), HIDE), (KEEP, (5, 4, ((2, 2, 2, 2),))), ((5, 4, ((1, 0, 4, True),)), HIDE),
)
UNLIKE = (((7, 4, ((1, 1, 1, 1),)), (7, 4, ())), ((5, 3, ((1, 1, 1),)), (5, 3, ())), ((5, 5, ((1, 1, 1, 1, 1),)), (5, 5, ())))


def drawn(seed):
    """Pairs of halls of one prime and size, of up to six shelves, some of which share a book, and a source of chances."""
    chance = chance_of(seed)
    for prime in PRIMES:
        for size in range(1, 6 if prime > 3 else 7):
            for _ in range(4):
                halls = []
                for _ in range(2):
                    keep = some_book(chance, prime, size, chance.randint(1, min(size, 3)), chance.randint(0, 1))
                    halls.append((keep, some_book(chance, prime, size, chance.choice((0, 1, 1, min(2, size), chance.randint(0, size))))))
                one, other = halls
                yield one, chance.choice((other, other, (one[0], other[1]), (other[0], one[1]))), chance


def cannot_lose(hall, lot):
    """Whether keep has a lesser rank at all other shelves than everywhere."""
    rest = rest_of(hall[0][1], lot)
    return rank_of_rows(hall[0][0], [[row[place] for place in rest] for row in hall[0][2]]) < len(hall[0][2])


def rounds_needed(hall, lot):
    """How many rounds the hall needs; more than any number if none are enough."""
    least = least_rounds(hall, lot)
    return float("inf") if least is None else least


def worse_by_hand(one, other):
    """The first lots of each kind, by going through all lots, those of fewer shelves ahead."""
    lots = lots_below(one[0][1])
    lost = [lot for lot in lots if cannot_lose(one, lot) and not cannot_lose(other, lot)]
    seen = [lot for lot in lots if is_free_by_rows(other[1], lot) and not is_free_by_rows(one[1], lot)]
    slow = [lot for lot in lots if rounds_needed(one, lot) > rounds_needed(other, lot)]
    return tuple(found[0] if found else None for found in (lost, seen, slow))


class Compared(unittest.TestCase):
    def test_all_lots_of_drawn_halls(self):
        seen = set()
        for one, other, _ in drawn(431):
            told = worse_by_hand(one, other)
            self.assertEqual(shown(worse_at(one, other)), shown(told), (one, other))
            self.assertIs(never_worse(one, other), told == (None, None, None))
            seen.update((at, lot is None, lot == ()) for at, lot in enumerate(told))
        self.assertLessEqual({(at, is_none, False) for at in range(3) for is_none in (True, False)}, seen)
        self.assertIn((2, False, True), seen)

    def test_what_can_be_lost_and_hides_by_all_words_of_tiny_halls(self):
        halls = {}
        for hall, _ in tiny_halls(434, 60):
            halls.setdefault(hall[0][:2], []).append(hall)
        for one, other in [pair for found in halls.values() for pair in itertools.permutations(found[:3], 2)]:
            prime, lots = one[0][0], lots_below(one[0][1])
            words = [[word for word in words_by_hand(hall[0]) if any(word)] for hall in (one, other)]
            lost = [[lot for lot in lots if any(lies_within(word, lot) for word in found)] for found in words]
            free = [[lot for lot in lots if len(cut_by_hand(words_by_hand(hall[1]), lot)) == prime ** len(lot)] for hall in (one, other)]
            told = [[lot for lot in lost[0] if lot not in lost[1]], [lot for lot in free[1] if lot not in free[0]]]
            self.assertEqual(worse_at(one, other)[:2], tuple(found[0] if found else None for found in told))

    def test_a_hall_is_never_worse_than_itself_and_scaled(self):
        for one, _, chance in drawn(432):
            prime, size, _ = one[0]
            other = scaled(one, *[tuple(chance.randint(1, prime - 1) for _ in range(size)) for _ in one])
            self.assertEqual([worse_at(one, one), worse_at(one, other), worse_at(other, one)], [(None, None, None)] * 3)
            self.assertIs(never_worse(other, one), True)

    def test_one_is_never_worse_or_neither_is(self):
        kinds = set()
        for one, other, _ in drawn(433):
            kinds.add((never_worse(one, other), never_worse(other, one)))
        self.assertEqual(kinds, {(True, True), (True, False), (False, True), (False, False)})
        self.assertEqual([never_worse(HALL, OPEN), never_worse(OPEN, HALL)], [False, False])

    def test_lots_of_fewer_shelves_come_ahead_then_ascending(self):
        for prime in PRIMES:
            keep = (prime, 3, ((1, 1, 1),))
            pair = (prime, 3, ((0, 1, 1),))
            # All of the words of pair lie within (1, 2): that lot comes ahead of the greater ones, and behind single ones.
            self.assertEqual(worse_at((pair, (prime, 3, ())), (keep, (prime, 3, ())))[0], (1, 2))
            self.assertEqual(worse_at(((prime, 3, ((0, 0, 1),)), (prime, 3, ())), (keep, (prime, 3, ())))[0], (2,))
            full = (prime, 3, ((1, 0, 0), (0, 1, 0), (0, 0, 1)))
            # (2,) is one shelf, (0, 1) are two: the one shelf comes ahead, though (0, 1) is the lesser tuple.
            self.assertEqual(worse_at((keep, (prime, 3, ((1, 0, 0), (0, 1, 0)))), (keep, full))[1], (2,))
            self.assertEqual(worse_at((keep, (prime, 3, ((1, 0, 1), (0, 1, 1)))), (keep, full))[1], (0, 1, 2))

    def test_none_is_more_than_any_number(self):
        deaf = (KEEP, KEEP)
        self.assertEqual([least_rounds(deaf, (0,)), least_rounds(HALL, (0,))], [None, 2])
        self.assertEqual([worse_at(deaf, HALL)[2], worse_at(HALL, deaf)[2]], [(), None])

    def test_any_values(self):
        values = {"one": NO_HALLS, "other": (*NO_HALLS, *UNLIKE)}
        check_refused(self, worse_at, (), {"one": HALL, "other": OPEN}, values)
        check_refused(self, never_worse, (), {"one": HALL, "other": OPEN}, values)
        self.assertEqual(raised(worse_at, UNLIKE[0], HALL), not_usable("other"))


if __name__ == "__main__":
    unittest.main()
