"""How few rounds are enough in spite of a silent lot, by lots of shelves and by cuts.

The rest is the book of the checks of the star that are 0 on the silent lot; shares are lots apart, each
free in the rest, together free in what is left to be read. See (G5) of the document.
"""

from starshelves.books import within_of
from starshelves.demands import demand
from starshelves.joinedlots import dealt_lots
from starshelves.kinds import is_like_book, is_lot, is_number, is_size, is_word_in
from starshelves.lots import all_lots
from starshelves.ranks import rank_at, ranks_of
from starshelves.rows import rows_off
from starshelves.tellings import star_checks


def is_left(hall, thing):
    """Whether any value is a book all words of which are words of keep, or None."""
    if thing is None:
        return True
    return is_like_book(hall[0], thing) and all([is_word_in(hall[0], row) for row in thing[2]])


def left_by(hall, left):
    """The book of what is left to be read: keep for None."""
    return hall[0] if left is None else left


def rest_by(hall, silent):
    """The rest for a lot."""
    prime, size, rows = star_checks(hall)
    return (prime, size, rows_off(prime, rows, silent))


def rest_book(hall, silent):
    """The book of the checks of the star that are 0 on the silent lot."""
    demand(is_lot(hall[0][1], silent), "silent")
    return rest_by(hall, silent)


def cut_ratio(hall, silent, lot, left=None):
    """The rank of what is left within the lot, and that of the rest cut to it."""
    rest = rest_book(hall, silent)
    demand(is_lot(hall[0][1], lot), "lot")
    demand(is_left(hall, left), "left")
    return (len(within_of(left_by(hall, left), lot)[2]), rank_at(rest, lot))


def cut_ranks(book, rest):
    """For each lot, in the order of all_lots, the rank of the book on all other shelves, and that of the rest on it."""
    # The ranks on the other shelves are those on the lots, turned round: see all_lots.
    return list(zip(ranks_of(book)[::-1], ranks_of(rest)))


def told_by(ranks, many):
    """The greatest number of shelves of so many shares, by the ranks that cut_ranks tells."""
    return min([outer + many * inner for outer, inner in ranks])


def most_told(hall, silent, many, left=None):
    """The greatest number of shelves of so many shares."""
    rest = rest_book(hall, silent)
    demand(is_number(many), "many")
    demand(is_left(hall, left), "left")
    return told_by(cut_ranks(left_by(hall, left), rest), many)


def least_rounds(hall, silent, left=None):
    """The least number of shares with as many shelves as the rank of what is left; None without one."""
    rest = rest_book(hall, silent)
    demand(is_left(hall, left), "left")
    book = left_by(hall, left)
    ranks = cut_ranks(book, rest)
    for many in range(len(book[2]) + 1):
        if told_by(ranks, many) == len(book[2]):
            return many
    return None


def best_lots(hall, silent, left=None):
    """Shares, so few, with as many shelves as the rank of what is left; None without any."""
    many = least_rounds(hall, silent, left)
    return None if many is None else dealt_lots(left_by(hall, left), (rest_by(hall, silent),) * many)


def rounds_cut(hall, silent, many, left=None):
    """A lot of which the first of cut_ratio is above so many times the second; None without one."""
    rest = rest_book(hall, silent)
    demand(is_number(many), "many")
    demand(is_left(hall, left), "left")
    book = left_by(hall, left)
    for lot, (outer, inner) in zip(all_lots(book[1]), cut_ranks(book, rest)):
        # What is left within the lot has the rank that is missing on all other shelves.
        if len(book[2]) - outer > many * inner:
            return lot
    return None


def unit_marks(size, lots):
    """The plan that has, for each lot, the mark with 1 on it and 0 elsewhere."""
    demand(is_size(size), "size")
    demand(isinstance(lots, tuple) and len(lots) > 0 and all([is_lot(size, lot) for lot in lots]), "lots")
    return tuple([tuple([1 if place in lot else 0 for place in range(size)]) for lot in lots])
