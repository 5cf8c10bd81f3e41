"""Lots that are free in a book, and those that are not."""

from starshelves.demands import demand
from starshelves.kinds import is_lot
from starshelves.ranks import bases_in, rank_at, rings_in


def is_free(book, lot):
    """Whether the lot is free in the book."""
    return rank_on(book, lot) == len(lot)


def rank_on(book, lot):
    """The rank of the book cut to the lot, 0 for ()."""
    demand(is_lot(book[1], lot), "lot")
    return rank_at(book, lot)


def closure_of(book, lot):
    """The lot of all places at which each word is 0 that is 0 on the whole lot."""
    rank = rank_on(book, lot)
    return tuple([place for place in range(book[1]) if rank_at(book, (*lot, place)) == rank])


def bases_of(book):
    """The set of the lots that are free and have as many places as the book has rows."""
    return bases_in(book)


def ring_in(book, lot):
    """The first ring that has places of the lot alone; None without one."""
    demand(is_lot(book[1], lot), "lot")
    for ring in rings_in(book):
        if all([place in lot for place in ring]):
            return ring
    return None


def rings_of(book):
    """The set of all rings."""
    return rings_in(book)
