"""How few rounds are enough when shelves wear out, and bounds on it."""

from math import comb

from starshelves.demands import demand
from starshelves.freelots import rings_of
from starshelves.kinds import is_lot, is_number
from starshelves.lots import lots_of, rest_of
from starshelves.ranks import rank_at
from starshelves.rounds import least_rounds
from starshelves.rows import picked


def demand_wear(hall, silent, wear):
    """Refuse what is no lot, or no number."""
    demand(is_lot(hall[0][1], silent), "silent")
    demand(is_number(wear), "wear")


def worn_lots(hall, silent, wear):
    """The silent lot with each lot of so many other shelves, of all if they are fewer, added."""
    others = rest_of(hall[0][1], silent)
    lots = lots_of(len(others), min(wear, len(others)))
    return [tuple(sorted([*silent, *picked(others, lot)])) for lot in lots]


def rounds_bound(hall, silent, wear):
    """The greatest of least_rounds for the lots that wear leads to; None if one is None."""
    demand_wear(hall, silent, wear)
    fewest = [least_rounds(hall, lot) for lot in worn_lots(hall, silent, wear)]
    return None if None in fewest else max(fewest)


def is_bound_met(hall, silent, wear):
    """Whether there are so few such lots that one plan surely reads in spite of each with just so many rounds."""
    if rounds_bound(hall, silent, wear) is None:
        return False
    heard = rest_of(hall[0][1], silent)
    return comb(len(heard) - 1, wear) < hall[0][0]


def hidden_depth(hall):
    """The greatest number for which each lot of so many shelves is free in hide."""
    # A lot is free exactly if no ring lies within it.
    return min([hall[1][1], *[len(ring) - 1 for ring in rings_of(hall[1])]])


def has_dead_place(book):
    """Whether some place is 0 in all words of the book."""
    return any([rank_at(book, (place,)) == 0 for place in range(book[1])])


def quotient_up(number, divisor):
    """The number divided by the divisor, rounded up; None if the divisor is not above 0."""
    return (number + divisor - 1) // divisor if divisor > 0 else None


def points_bound(hall, silent, wear):
    """How few rounds halls of polynomials with these ranks need; 0 where this bounds nothing."""
    demand_wear(hall, silent, wear)
    depth = hidden_depth(hall)
    if depth == 0 or has_dead_place(hall[0]):
        return 0
    size, rank = hall[0][1], len(hall[0][2])
    return quotient_up(rank, size - len(silent) - wear - rank - depth + 1)
