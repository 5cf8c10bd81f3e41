"""Halls of the values of polynomials, and plans of few rounds for them."""

from starshelves.bookclasses import Points, are_points, values_at
from starshelves.demands import demand
from starshelves.kinds import is_integer, is_number, is_prime
from starshelves.rows import unit_word
from starshelves.worn import quotient_up


def demand_points(prime, points, kept, hidden):
    """Refuse what is no prime, no points of it, or no rank of a book of these points."""
    demand(is_prime(prime), "prime")
    demand(are_points(prime, points), "points")
    demand(is_integer(kept) and 1 <= kept <= len(points), "kept")
    demand(is_integer(hidden) and 1 <= hidden <= len(points), "hidden")


def points_hall(prime, points, kept, hidden):
    """The hall of the values at the points of all polynomials of degree below kept, and below hidden."""
    demand_points(prime, points, kept, hidden)
    return (Points(prime, points, kept).form_now, Points(prime, points, hidden).form_now)


def points_spared(prime, points, kept, hidden, silent_many, lying):
    """How many points are not needed for anything else, and 1 more: so much a round tells."""
    demand_points(prime, points, kept, hidden)
    demand(is_number(silent_many), "silent_many")
    demand(is_number(lying), "lying")
    return len(points) - silent_many - 2 * lying - kept - hidden + 1


def points_rounds(prime, points, kept, hidden, silent_many, lying):
    """How many rounds are enough in spite of so many silent and so many lying shelves; None if none are."""
    spared = points_spared(prime, points, kept, hidden, silent_many, lying)
    return quotient_up(kept, spared)


def points_plan(prime, points, kept, hidden, silent_many, lying):
    """The plan of so many rounds, each mark the values of one power; None if none are enough."""
    spared = points_spared(prime, points, kept, hidden, silent_many, lying)
    many = quotient_up(kept, spared)
    if many is None:
        return None
    degrees = [hidden - 1 + (turn + 1) * spared for turn in range(many)]
    return tuple([values_at(prime, points, unit_word(degree + 1, degree)) for degree in degrees])
