"""The judge of papers on how few rounds are enough."""

from starshelves.demands import demand
from starshelves.errors import InvalidPaper
from starshelves.kinds import is_lot, is_tuple_of
from starshelves.ranks import rank_at
from starshelves.rounds import cut_ratio, is_left, left_by, rest_book


def judge_shares(rest, book, lots):
    """Refuse lots that are no shares, or have fewer shelves than the book has rows."""
    together = ()
    for k, lot in enumerate(lots):
        if not is_lot(rest[1], lot):
            raise InvalidPaper("lot", k)
        if any([shelf in together for shelf in lot]):
            raise InvalidPaper("shared", k)
        if rank_at(rest, lot) < len(lot):
            raise InvalidPaper("free", k)
        together = (*together, *lot)
    if len(together) < len(book[2]):
        raise InvalidPaper("few", -1)
    if rank_at(book, together) < len(together):
        raise InvalidPaper("told", -1)


def judged_cut(hall, silent, cut, left):
    """Both numbers of cut_ratio; refuse what is no lot."""
    if not is_lot(hall[0][1], cut):
        raise InvalidPaper("cut", -1)
    return cut_ratio(hall, silent, cut, left)


def judged_rounds(hall, silent, lots, cut, left):
    """How many shares there are; refuse what are none, and a cut that fewer would pass."""
    judge_shares(rest_book(hall, silent), left_by(hall, left), lots)
    first, second = judged_cut(hall, silent, cut, left)
    if first <= second * (len(lots) - 1):
        raise InvalidPaper("value", -1)
    return len(lots)


def judge_never(hall, silent, cut, left):
    """Refuse a cut that some shares may pass."""
    first, second = judged_cut(hall, silent, cut, left)
    if first == 0 or second != 0:
        raise InvalidPaper("value", -1)


def lets_rounds(hall, silent, thing, left=None):
    """How few rounds are enough, by any value that is a paper; InvalidPaper tells why another one is none."""
    demand(is_lot(hall[0][1], silent), "silent")
    demand(is_left(hall, left), "left")
    if is_tuple_of(1, thing) and thing[0] == "known":
        if len(left_by(hall, left)[2]) > 0:
            raise InvalidPaper("left", -1)
        return 0
    if is_tuple_of(3, thing) and thing[0] == "rounds" and isinstance(thing[1], tuple) and len(thing[1]) > 0:
        return judged_rounds(hall, silent, thing[1], thing[2], left)
    if is_tuple_of(2, thing) and thing[0] == "never":
        judge_never(hall, silent, thing[1], left)
        return None
    raise InvalidPaper("shape", -1)
