"""The judge of papers of a greatest common lot."""

from starshelves.errors import InvalidPaper
from starshelves.freelots import is_free, rank_on
from starshelves.kinds import is_lot, is_tuple_of
from starshelves.lots import rest_of


def lets_common(one, other, thing):
    """The size of the lot of any value that is a paper; InvalidPaper tells why another one is none."""
    if not is_tuple_of(3, thing) or thing[0] != "common":
        raise InvalidPaper("shape", -1)
    _, lot, cut = thing
    if not is_lot(one[1], lot):
        raise InvalidPaper("lot", -1)
    if not is_free(one, lot):
        raise InvalidPaper("one", -1)
    if not is_free(other, lot):
        raise InvalidPaper("other", -1)
    if not is_lot(one[1], cut):
        raise InvalidPaper("cut", -1)
    if rank_on(one, rest_of(one[1], cut)) + rank_on(other, cut) > len(lot):
        raise InvalidPaper("more", -1)
    return len(lot)
