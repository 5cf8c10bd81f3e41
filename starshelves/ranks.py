"""The ranks of a book cut to lots, and which lots are free. Nothing is checked here."""

from starshelves.lots import all_lots, lacking_one
from starshelves.rows import grown, picked, settled


def rank_at(book, lot):
    """The rank of the book cut to the lot, 0 for ()."""
    prime, _, rows = book
    return len(settled(prime, [picked(row, lot) for row in rows]))


def ranks_of(book):
    """The rank of the book cut to each lot, in the order of all_lots."""
    prime, size, rows = book
    spans = [()]
    for place in range(size):
        # Rows and columns have one rank, and one column more is soon added.
        column = tuple([row[place] for row in rows])
        spans = spans + [grown(prime, span, column) for span in spans]
    return [len(span) for span in spans]


def free_lots(book):
    """All lots that are free in the book, in the order of all_lots."""
    return [lot for lot, rank in zip(all_lots(book[1]), ranks_of(book)) if rank == len(lot)]


def bases_in(book):
    """The set of the lots that are free and have as many places as the book has rows."""
    return tuple(sorted([lot for lot in free_lots(book) if len(lot) == len(book[2])]))


def rings_in(book):
    """The set of all rings: lots that are not free, unlike those that lack one of their places."""
    free = {lot: True for lot in free_lots(book)}
    rings = []
    for lot in all_lots(book[1]):
        if lot not in free and all([part in free for part in lacking_one(lot)]):
            rings.append(lot)
    return tuple(sorted(rings))


def cut_sums(one, others):
    """For each lot, in the order of all_lots, the rank of one on its rest and those of all others on it, summed."""
    # The ranks on the rests are those on the lots, turned round: see all_lots.
    sums = ranks_of(one)[::-1]
    for other in others:
        sums = [total + rank for total, rank in zip(sums, ranks_of(other))]
    return sums


def least_cut(one, others):
    """A lot for which the rank of one on its rest and those of all others on it come to the least sum."""
    sums = cut_sums(one, others)
    return all_lots(one[1])[sums.index(min(sums))]
