"""Covers: the drawn words that hide which slot is asked for."""

from starshelves.askkinds import is_covering
from starshelves.demands import demand
from starshelves.stockkinds import is_stock


def are_covers(hall, stock, thing):
    """Whether any value is covers for the stock."""
    demand(is_stock(hall, stock), "stock")
    return is_covering(hall, stock, thing)


def plain_covers(hall, stock):
    """The covers that are all noughts."""
    demand(is_stock(hall, stock), "stock")
    return tuple([tuple([(0,) * hall[0][1] for _ in file]) for file in stock])
