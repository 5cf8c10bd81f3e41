"""Shares for rounds with unlike silent lots."""

from starshelves.demands import demand
from starshelves.joinedlots import dealt_lots
from starshelves.kinds import is_lot
from starshelves.ranks import cut_sums, least_cut
from starshelves.rounds import is_left, left_by, rest_by


def rests_by(hall, silences, left):
    """The rest for each silent lot; refuse what are no silences, or is nothing that can be left."""
    fits = isinstance(silences, tuple) and len(silences) > 0 and all([is_lot(hall[0][1], lot) for lot in silences])
    demand(fits, "silences")
    demand(is_left(hall, left), "left")
    return tuple([rest_by(hall, silent) for silent in silences])


def most_in(hall, silences, left=None):
    """The greatest number of shelves of shares, one for each silent lot."""
    rests = rests_by(hall, silences, left)
    return min(cut_sums(left_by(hall, left), rests))


def lots_in(hall, silences, left=None):
    """Such shares with so many shelves."""
    rests = rests_by(hall, silences, left)
    return dealt_lots(left_by(hall, left), rests)


def cut_in(hall, silences, left=None):
    """A lot that shows that no such shares have more shelves."""
    rests = rests_by(hall, silences, left)
    return least_cut(left_by(hall, left), rests)
