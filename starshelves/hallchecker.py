"""The judge of halls."""

from starshelves.errors import InvalidPaper
from starshelves.kinds import is_book, is_tuple_of


def lets_hall(thing):
    """True for any value that is a hall; InvalidPaper tells why another one is none."""
    if not is_tuple_of(2, thing):
        raise InvalidPaper("shape", -1)
    keep, hide = thing
    if not is_book(keep) or len(keep[2]) == 0:
        raise InvalidPaper("keep", -1)
    if not is_book(hide):
        raise InvalidPaper("hide", -1)
    if keep[:2] != hide[:2]:
        raise InvalidPaper("like", -1)
    return True
