"""All lots of places, in one order that other lists follow.

A lot's index in all_lots has the bits of its places: so two lots have no place in common if
their indexes have no bit in common, and the list turned round is that of the rests.
"""


def all_lots(size):
    """All lots of places below size."""
    lots = [()]
    for place in range(size):
        lots = lots + [(*lot, place) for lot in lots]
    return lots


def lots_of(size, many):
    """The lots of just so many places below size, ascending; without any, if they are fewer places."""
    return sorted([lot for lot in all_lots(size) if len(lot) == many])


def rest_of(size, lot):
    """All places that are not in the lot."""
    return tuple([place for place in range(size) if place not in lot])


def lacking_one(lot):
    """The lots that lack just one place of this lot."""
    return [rest_in(lot, place) for place in lot]


def rest_in(lot, place):
    """The lot without the place."""
    return tuple([other for other in lot if other != place])


def price_of(prices, lot):
    """The sum of the prices of the lot's places."""
    return sum([prices[place] for place in lot])
