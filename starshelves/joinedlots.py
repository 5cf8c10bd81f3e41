"""Lots put together: free in several books, apart from each other, and together free in one book."""

from starshelves.demands import demand
from starshelves.kinds import are_others
from starshelves.lots import all_lots
from starshelves.ranks import least_cut, ranks_of


def free_indexes(book):
    """The indexes in all_lots of the lots that are free in the book."""
    lots = all_lots(book[1])
    return [at for at, rank in enumerate(ranks_of(book)) if rank == len(lots[at])]


def dealt_further(deals, wanted, parts):
    """The deals with a part more each, of these parts, as far as they stay wanted.

    A deal is a tuple of indexes of lots that are apart; it is kept by the index of all of them
    together, since it does not matter which of two deals of the same places goes on.
    """
    found = {}
    for taken in deals:
        for part in parts:
            if (taken & part) == 0 and (taken | part) in wanted and (taken | part) not in found:
                found[taken | part] = (*deals[taken], part)
    return found


def all_deals(one, others):
    """For the index of each lot that can be dealt out so, together free in one, such a deal."""
    wanted = {at: True for at in free_indexes(one)}
    deals = {0: ()}
    for other in others:
        deals = dealt_further(deals, wanted, free_indexes(other))
    return deals


def lots_dealt(size, deal):
    """The lots of a deal."""
    lots = all_lots(size)
    return tuple([lots[part] for part in deal])


def dealt_lots(one, others):
    """Lots as joint_lots tells them, of however many others."""
    lots = all_lots(one[1])
    deals = all_deals(one, others)
    most = max(list(deals), key=lambda taken: len(lots[taken]))
    return lots_dealt(one[1], deals[most])


def joint_lots(one, others):
    """Lots apart, each free in one of the others, together free in one, of as many places as can be."""
    demand(are_others(one[1], others), "others")
    return dealt_lots(one, others)


def joint_size(one, others):
    """How many places such lots have."""
    return sum([len(lot) for lot in joint_lots(one, others)])


def joint_cut(one, others):
    """A lot that shows that no such lots have more places: see the judge of such papers."""
    demand(are_others(one[1], others), "others")
    return least_cut(one, others)
