"""Rows that are written anew, and the shelves that this touches."""

from starshelves.books import within_of
from starshelves.demands import demand
from starshelves.kinds import is_lot, is_word_in
from starshelves.mending import least_losses
from starshelves.stockkinds import is_slot, is_stock, shape_of
from starshelves.stocks import shelves_of, with_slot


def demand_write(hall, stock, slot, word):
    """Refuse what is no stock, no slot of it, or no word of keep."""
    demand(is_stock(hall, stock), "stock")
    demand(is_slot(stock, slot), "slot")
    demand(is_word_in(hall[0], word), "word")


def changed(hall, stock, slot, word):
    """The stock with this word at the slot."""
    demand_write(hall, stock, slot, word)
    return with_slot(stock, slot, word)


def touched(hall, stock, other):
    """The set of the shelves that hold another digit somewhere in the other stock."""
    demand(is_stock(hall, stock), "stock")
    demand(is_stock(hall, other) and shape_of(other) == shape_of(stock), "other")
    former, later = shelves_of(hall, stock), shelves_of(hall, other)
    return tuple([shelf for shelf in range(hall[0][1]) if former[shelf] != later[shelf]])


def partly(hall, stock, slot, word, lot):
    """What the shelves hold at the slot when only those of the lot have taken the word."""
    demand_write(hall, stock, slot, word)
    demand(is_lot(hall[0][1], lot), "lot")
    at, row = slot
    return tuple([word[place] if place in lot else digit for place, digit in enumerate(stock[at][row])])


def least_touch(hall):
    """Of the words of keep, not all 0, that have the least weight, the least one."""
    # Within a least lot that cannot be lost lie just the multiples of one row, and that is the least of them.
    losses = least_losses(hall)
    fewest = min([len(loss) for loss in losses])
    return min([within_of(hall[0], loss)[2][0] for loss in losses if len(loss) == fewest])
