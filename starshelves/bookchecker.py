"""The judge of books."""

from starshelves.errors import InvalidPaper
from starshelves.kinds import is_prime, is_size, is_tuple_of, is_word
from starshelves.rows import lead_of


def lets_book(thing):
    """The rank of any value that is a book; InvalidPaper tells why another one is none."""
    if not is_tuple_of(3, thing):
        raise InvalidPaper("shape", -1)
    prime, size, rows = thing
    if not is_prime(prime):
        raise InvalidPaper("prime", -1)
    if not is_size(size):
        raise InvalidPaper("size", -1)
    if not isinstance(rows, tuple):
        raise InvalidPaper("rows", -1)
    judge_firsts(prime, size, rows)
    judge_settled(rows)
    return len(rows)


def judge_firsts(prime, size, rows):
    """Refuse the first row that is no word, all 0, or begins wrongly."""
    ahead = -1
    for k, row in enumerate(rows):
        if not is_word(prime, size, row):
            raise InvalidPaper("row", k)
        lead = lead_of(row)
        if lead is None:
            raise InvalidPaper("nought", k)
        if row[lead] != 1 or lead <= ahead:
            raise InvalidPaper("first", k)
        ahead = lead


def judge_settled(rows):
    """Refuse the first pair of rows of which the second is not 0 where the first begins."""
    for k, row in enumerate(rows):
        lead = lead_of(row)
        for j, other in enumerate(rows):
            if j != k and other[lead] != 0:
                raise InvalidPaper("settled", (k, j))
