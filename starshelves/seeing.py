"""Which lots of shelves learn what is asked, and by what.

A lot learns nothing if some word of hide has the mark's digits on it: so if the mark adds no rank to hide
there. Otherwise some word of the checks of hide within the lot tells the mark from all covers.
"""

from starshelves.askkinds import is_mark
from starshelves.books import checks_of, within_of
from starshelves.demands import demand
from starshelves.fitting import fitting_word
from starshelves.kinds import is_lot
from starshelves.lots import all_lots, lacking_one
from starshelves.ranks import rank_at, ranks_of
from starshelves.rows import digit_of_products, grown, picked


def demand_sight(hall, mark, lot):
    """Refuse what is no mark, or no lot."""
    demand(is_mark(hall, mark), "mark")
    demand(is_lot(hall[0][1], lot), "lot")


def marked_book(hall, mark):
    """The book of all sums of a word of hide and a multiple of the mark."""
    prime, size, rows = hall[1]
    return (prime, size, grown(prime, rows, mark))


def learns(hall, mark, lot):
    """Whether the lot learns all of asks with the mark; otherwise it learns nothing."""
    demand_sight(hall, mark, lot)
    return rank_at(marked_book(hall, mark), lot) > rank_at(hall[1], lot)


def like_of(hall, mark, lot):
    """The least word of hide with the digits of the mark on the lot; None without one."""
    demand_sight(hall, mark, lot)
    return fitting_word(hall[1], lot, picked(mark, lot))


def tell_of(hall, mark, lot):
    """The least tell that lies within the lot; None without one."""
    demand_sight(hall, mark, lot)
    # Of settled rows the last one that tells is less than all sums that tell.
    for row in within_of(checks_of(hall[1]), lot)[2][::-1]:
        if digit_of_products(hall[0][0], row, mark) != 0:
            return row
    return None


def learning(hall, mark):
    """For each lot, in the order of all_lots, whether it learns."""
    return [more > less for more, less in zip(ranks_of(marked_book(hall, mark)), ranks_of(hall[1]))]


def learning_lots(hall, mark):
    """The set of the lots that learn and have no lesser part that does."""
    demand(is_mark(hall, mark), "mark")
    told = {lot: seen for lot, seen in zip(all_lots(hall[0][1]), learning(hall, mark))}
    return tuple(sorted([lot for lot in told if told[lot] and not any([told[part] for part in lacking_one(lot)])]))


def blind_lots(hall, mark):
    """The set of the lots that learn nothing and are part of no greater one that does so."""
    demand(is_mark(hall, mark), "mark")
    size = hall[0][1]
    told = {lot: seen for lot, seen in zip(all_lots(size), learning(hall, mark))}
    return tuple(sorted([lot for lot in told if not told[lot] and all([told[more] for more in with_one(size, lot)])]))


def with_one(size, lot):
    """The lots that have just one place more than this lot."""
    return [tuple(sorted([*lot, place])) for place in range(size) if place not in lot]
