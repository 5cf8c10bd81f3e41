"""The judge of papers on whether a lot of shelves learns what is asked."""

from starshelves.askkinds import is_mark
from starshelves.errors import InvalidPaper
from starshelves.kinds import is_tuple_of, is_word_in
from starshelves.lots import rest_of
from starshelves.rows import digit_of_products
from starshelves.seeing import demand_sight


def judge_like(hall, mark, lot, word):
    """Refuse a word that is none of hide, or has not the digits of the mark on the lot."""
    if not is_word_in(hall[1], word):
        raise InvalidPaper("hide", -1)
    for place in lot:
        if word[place] != mark[place]:
            raise InvalidPaper("digit", place)


def judge_tell(hall, mark, lot, word):
    """Refuse a word that is no tell within the lot."""
    prime, size, rows = hall[1]
    for place in rest_of(size, lot):
        if word[place] != 0:
            raise InvalidPaper("within", place)
    for k, row in enumerate(rows):
        if digit_of_products(prime, word, row) != 0:
            raise InvalidPaper("check", k)
    if digit_of_products(prime, word, mark) == 0:
        raise InvalidPaper("nought", -1)


def lets_see(hall, mark, lot, thing):
    """Whether the lot learns, by any value that is a paper; InvalidPaper tells why another one is none."""
    demand_sight(hall, mark, lot)
    if not is_tuple_of(2, thing) or thing[0] not in ("like", "tell") or not is_mark(hall, thing[1]):
        raise InvalidPaper("shape", -1)
    kind, word = thing
    if kind == "like":
        judge_like(hall, mark, lot, word)
        return False
    judge_tell(hall, mark, lot, word)
    return True
