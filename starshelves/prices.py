"""Shares of the least sum of prices."""

from starshelves.demands import demand
from starshelves.joinedlots import all_deals, lots_dealt
from starshelves.kinds import are_prices, is_lot, is_number
from starshelves.lots import all_lots, price_of
from starshelves.rounds import rest_by


def cheapest_shares(hall, silent, many, prices):
    """Cheapest shares, so many or as many as shelves, with as many shelves as keep has rows; None without any."""
    keep = hall[0]
    demand(is_lot(keep[1], silent), "silent")
    demand(is_number(many), "many")
    demand(are_prices(keep[1], prices), "prices")
    lots, deals = all_lots(keep[1]), all_deals(keep, (rest_by(hall, silent),) * min(many, keep[1]))
    full = [taken for taken in deals if len(lots[taken]) == len(keep[2])]
    cheapest = min(full, key=lambda taken: price_of(prices, lots[taken]), default=None)
    return None if cheapest is None else lots_dealt(keep[1], deals[cheapest])


def cheapest_lots(hall, silent, many, prices):
    """Cheapest shares, so many, with as many shelves as keep has rows; None without any."""
    shares = cheapest_shares(hall, silent, many, prices)
    # Of more shares than there are shelves some are empty.
    return None if shares is None else shares + ((),) * (many - len(shares))


def least_price(hall, silent, many, prices):
    """The least sum of prices of such shares; None without any."""
    shares = cheapest_shares(hall, silent, many, prices)
    return None if shares is None else sum([price_of(prices, lot) for lot in shares])
