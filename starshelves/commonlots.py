"""Lots that are free in two books, perhaps of unlike primes."""

from starshelves.demands import demand
from starshelves.kinds import are_prices, is_number
from starshelves.lots import all_lots, price_of
from starshelves.ranks import least_cut, ranks_of


def common_lots(one, other):
    """All lots that are free in both books."""
    lots, lefts, rights = all_lots(one[1]), ranks_of(one), ranks_of(other)
    return [lot for lot, left, right in zip(lots, lefts, rights) if left == right == len(lot)]


def common_lot(one, other):
    """A lot that is free in both books, with as many places as can be."""
    return max(common_lots(one, other), key=len)


def common_cut(one, other):
    """A lot that shows that no greater lot is free in both: see the judge of such papers."""
    return least_cut(one, (other,))


def cheapest_common(one, other, prices, size):
    """A cheapest lot of just size places that is free in both books; None if there is none."""
    demand(are_prices(one[1], prices), "prices")
    demand(is_number(size), "size")
    lots = [lot for lot in common_lots(one, other) if len(lot) == size]
    return min(lots, key=lambda lot: price_of(prices, lot), default=None)
