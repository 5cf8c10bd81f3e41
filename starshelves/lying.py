"""How many lying shelves a plan bears, and what is sure in spite of them."""

from starshelves.books import checks_of
from starshelves.demands import demand
from starshelves.kinds import is_number
from starshelves.lots import lots_of
from starshelves.reading import demand_plan
from starshelves.rows import settled
from starshelves.tellings import star_checks, told_book


def with_lot(silences, lot):
    """The silences with the lot added to each of them."""
    return tuple([tuple(sorted([*silent, *[shelf for shelf in lot if shelf not in silent]])) for silent in silences])


def told_books(hall, plan, silences, many):
    """What the plan tells in spite of the silences with each lot of just so many shelves, all at most, added."""
    checks = star_checks(hall)
    lots = lots_of(hall[0][1], min(many, hall[0][1]))
    return [told_book(hall[0], checks, plan, with_lot(silences, lot)) for lot in lots]


def bears(hall, plan, silences, many):
    """Whether the plan reads in spite of the silences with any lot of at most so many shelves added to each."""
    demand_plan(hall, plan, silences)
    demand(is_number(many), "many")
    # What is told with fewer shelves added is never less.
    return all([len(book[2]) == len(hall[0][2]) for book in told_books(hall, plan, silences, many)])


def most_liars(hall, plan, silences):
    """The greatest number that the plan bears; None if it does not read."""
    many = 0
    while bears(hall, plan, silences, many):
        many += 1
    return many - 1 if many > 0 else None


def sure_sums(hall, plan, silences, many):
    """The book of the sums that are told in spite of the silences with each such lot added."""
    demand_plan(hall, plan, silences)
    demand(is_number(many), "many")
    prime, rank = hall[0][0], len(hall[0][2])
    # A sum is in all these books if it checks all that is unseen in some of them.
    unseen = [row for book in told_books(hall, plan, silences, many) for row in checks_of(book)[2]]
    return checks_of((prime, rank, settled(prime, unseen)))
