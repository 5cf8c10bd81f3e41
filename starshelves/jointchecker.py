"""The judge of papers of lots put together."""

from starshelves.demands import demand
from starshelves.errors import InvalidPaper
from starshelves.freelots import is_free, rank_on
from starshelves.kinds import are_others, is_lot, is_tuple_of
from starshelves.lots import rest_of


def is_joint_form(many, thing):
    """Whether any value is a triple as of a paper for so many others."""
    return is_tuple_of(3, thing) and thing[0] == "joint" and is_tuple_of(many, thing[1])


def judged_together(size, others, lots):
    """The lot of all places of the lots; refuse the first one that is none, not apart or not free."""
    together = ()
    for k, lot in enumerate(lots):
        if not is_lot(size, lot):
            raise InvalidPaper("lot", k)
        if any([place in together for place in lot]):
            raise InvalidPaper("apart", k)
        if not is_free(others[k], lot):
            raise InvalidPaper("free", k)
        together = (*together, *lot)
    return tuple(sorted(together))


def lets_joint(one, others, thing):
    """How many places the lots of any value that is a paper have; InvalidPaper tells why another one is none."""
    demand(are_others(one[1], others), "others")
    if not is_joint_form(len(others), thing):
        raise InvalidPaper("shape", -1)
    _, lots, cut = thing
    together = judged_together(one[1], others, lots)
    if not is_free(one, together):
        raise InvalidPaper("one", -1)
    if not is_lot(one[1], cut):
        raise InvalidPaper("cut", -1)
    ranks = [rank_on(one, rest_of(one[1], cut)), *[rank_on(other, cut) for other in others]]
    if sum(ranks) > len(together):
        raise InvalidPaper("more", -1)
    return len(together)
