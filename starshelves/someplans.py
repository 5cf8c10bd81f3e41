"""Whether some plan of the marks of a book reads."""

from starshelves.demands import demand
from starshelves.kinds import is_like_book, is_lot
from starshelves.tellings import star_checks, told_book


def some_plan_reads(hall, book, silent):
    """Whether some plan of marks of the book reads in spite of the lot, silent in all rounds."""
    keep = hall[0]
    demand(is_like_book(keep, book), "book")
    demand(is_lot(keep[1], silent), "silent")
    # No plan of its marks tells more than that of its rows, one round each.
    told = told_book(keep, star_checks(hall), book[2], (silent,) * len(book[2]))
    return len(told[2]) == len(keep[2])
