"""What the shelves hold of a stock, and the stock of which they hold it."""

from starshelves.demands import demand
from starshelves.fitting import fitting_stock
from starshelves.stockkinds import is_all_held, is_shelf, is_stock


def dealt_to(stock, shelf):
    """For each file, the shelf's digit of each row."""
    return tuple([tuple([row[shelf] for row in file]) for file in stock])


def with_item(items, at, item):
    """The tuple with this item in place of the one with the index."""
    return (*items[:at], item, *items[at + 1:])


def with_slot(parts, slot, part):
    """The stock with this row at the slot, or what a shelf holds with this digit there."""
    at, row = slot
    return with_item(parts, at, with_item(parts[at], row, part))


def shelf_of(hall, stock, shelf):
    """What the shelf holds."""
    demand(is_stock(hall, stock), "stock")
    demand(is_shelf(hall, shelf), "shelf")
    return dealt_to(stock, shelf)


def shelves_of(hall, stock):
    """What each shelf holds."""
    demand(is_stock(hall, stock), "stock")
    return tuple([dealt_to(stock, shelf) for shelf in range(hall[0][1])])


def slots_of(hall, stock):
    """The set of the slots of the stock."""
    demand(is_stock(hall, stock), "stock")
    return tuple([(at, row) for at, file in enumerate(stock) for row in range(len(file))])


def stock_from(hall, held):
    """The stock of which the shelves hold this; Torn(()) without one."""
    demand(is_all_held(hall, held), "held")
    return fitting_stock(hall, tuple(range(hall[0][1])), held)
