"""Shelves that lie about what they hold, beside others that are lost."""

from starshelves.demands import demand
from starshelves.errors import Torn
from starshelves.fitting import some_fitting_stock
from starshelves.kinds import is_lot, is_number
from starshelves.lots import lots_of, rest_of
from starshelves.mending import least_losses, refuse_lost
from starshelves.rows import picked
from starshelves.stockkinds import is_some_held
from starshelves.stocks import dealt_to


def most_borne(hall, lot):
    """The most other shelves whose lies can be cleared while the lot is lost; None if the lot cannot be lost."""
    demand(is_lot(hall[0][1], lot), "lot")
    # Two stocks can be taken for each other if half of the shelves between them lie.
    fewest = min([len([shelf for shelf in loss if shelf not in lot]) for loss in least_losses(hall)])
    return (fewest - 1) // 2 if fewest > 0 else None


def clears(hall, lot, many):
    """Whether the lies of so many other shelves can be cleared while the lot is lost."""
    most = most_borne(hall, lot)
    demand(is_number(many), "many")
    return most is not None and many <= most


def cleared(hall, held, many):
    """The stock that holds what is held, but for so many of these shelves; Torn(()) without one."""
    demand(is_some_held(hall, held), "held")
    demand(is_number(many), "many")
    lost = rest_of(hall[0][1], tuple([shelf for shelf, _ in held]))
    refuse_lost(hall, lost)
    demand(clears(hall, lost, many), "many")
    for liars in lots_of(len(held), many):
        honest = picked(held, rest_of(len(held), liars))
        lot = tuple([shelf for shelf, _ in honest])
        stock = some_fitting_stock(hall, lot, [dealt for _, dealt in honest])
        if stock is not None:
            return stock
    raise Torn(())


def liars_in(hall, held, many):
    """The set of the shelves that hold something else than the stock that is cleared."""
    stock = cleared(hall, held, many)
    return tuple([shelf for shelf, dealt in held if dealt != dealt_to(stock, shelf)])
