"""Shelves that are lost, and those that mend them."""

from starshelves.books import checks_of, within_of
from starshelves.demands import demand
from starshelves.errors import Lost
from starshelves.fitting import fitting_stock
from starshelves.freelots import rings_of
from starshelves.kinds import are_prices, is_lot
from starshelves.lots import price_of, rest_in, rest_of
from starshelves.stockkinds import is_shelf, is_some_held


def can_mend(hall, lot):
    """Whether the lot can be lost."""
    demand(is_lot(hall[0][1], lot), "lot")
    return len(within_of(hall[0], lot)[2]) == 0


def menders_of(hall, shelf):
    """The set of the least lots of other shelves that mend the shelf."""
    demand(is_shelf(hall, shelf), "shelf")
    return tuple(sorted([rest_in(ring, shelf) for ring in rings_of(hall[0]) if shelf in ring]))


def least_losses(hall):
    """The set of the least lots that cannot be lost."""
    # These are the least lots that some word of keep needs: the rings of the checks.
    return rings_of(checks_of(hall[0]))


def distance_of(hall):
    """The fewest shelves of a lot that cannot be lost."""
    return min([len(lot) for lot in least_losses(hall)])


def refuse_lost(hall, lot):
    """Refuse a lot that cannot be lost: Lost tells the least word of keep within it."""
    unseen = within_of(hall[0], lot)[2]
    if len(unseen) > 0:
        # The last settled row begins last, and with 1: no word but that of noughts is less.
        raise Lost(unseen[-1])


def mended(hall, held):
    """The stock by what some shelves hold; Lost if it hangs on the others, Torn(()) without one."""
    demand(is_some_held(hall, held), "held")
    lot = tuple([shelf for shelf, _ in held])
    refuse_lost(hall, rest_of(hall[0][1], lot))
    return fitting_stock(hall, lot, [dealt for _, dealt in held])


def cheapest_menders(hall, shelf, prices):
    """A cheapest lot of other shelves that mends the shelf; None without one."""
    menders = menders_of(hall, shelf)
    demand(are_prices(hall[0][1], prices), "prices")
    return min(menders, key=lambda lot: price_of(prices, lot), default=None)
