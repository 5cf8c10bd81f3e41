"""The judge of papers on whether a lot can be lost."""

from starshelves.books import checks_of
from starshelves.demands import demand
from starshelves.errors import InvalidPaper
from starshelves.kinds import is_lot, is_tuple_of, is_word_in
from starshelves.lots import rest_of
from starshelves.rows import lead_of, picked, unit_word


def judge_checks(keep, lot, checks):
    """Refuse checks of which one does not mend its shelf of the lot."""
    if len(checks) != len(lot):
        raise InvalidPaper("many", -1)
    book = checks_of(keep)
    for k, check in enumerate(checks):
        if not is_word_in(book, check):
            raise InvalidPaper("check", k)
        if picked(check, lot) != unit_word(len(lot), k):
            raise InvalidPaper("place", k)


def judge_lost(keep, lot, word):
    """Refuse a word that is none of keep, all 0, or does not lie within the lot."""
    if not is_word_in(keep, word) or lead_of(word) is None:
        raise InvalidPaper("word", -1)
    if lead_of(picked(word, rest_of(keep[1], lot))) is not None:
        raise InvalidPaper("within", -1)


def lets_mend(hall, lot, thing):
    """Whether the lot can be lost, by any value that is a paper; InvalidPaper tells why another one is none."""
    keep = hall[0]
    demand(is_lot(keep[1], lot), "lot")
    if is_tuple_of(2, thing) and thing[0] == "mends" and isinstance(thing[1], tuple):
        judge_checks(keep, lot, thing[1])
        return True
    if is_tuple_of(2, thing) and thing[0] == "lost":
        judge_lost(keep, lot, thing[1])
        return False
    raise InvalidPaper("shape", -1)
