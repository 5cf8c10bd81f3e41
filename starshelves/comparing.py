"""Halls compared: in what one is worse than another one."""

from starshelves.demands import demand
from starshelves.freelots import is_free
from starshelves.lots import lots_of
from starshelves.mending import can_mend
from starshelves.rounds import least_rounds
from starshelves.stockkinds import is_hall


def lots_by_size(size):
    """All lots, those of fewer places ahead, then ascending."""
    return [lot for many in range(size + 1) for lot in lots_of(size, many)]


def needs_more(one, other, silent):
    """Whether the one hall needs more rounds in spite of the silent lot; None is more than any number."""
    most, fewer = least_rounds(one, silent), least_rounds(other, silent)
    return fewer is not None and (most is None or most > fewer)


def worse_at(one, other):
    """The first lots that one cannot lose, hide from and be read in spite of as well as the other one, or None."""
    demand(is_hall(one), "one")
    demand(is_hall(other) and other[0][:2] == one[0][:2], "other")
    lots = lots_by_size(one[0][1])
    lost = [lot for lot in lots if can_mend(other, lot) and not can_mend(one, lot)]
    seen = [lot for lot in lots if is_free(other[1], lot) and not is_free(one[1], lot)]
    slow = [lot for lot in lots if needs_more(one, other, lot)]
    return tuple([found[0] if len(found) > 0 else None for found in (lost, seen, slow)])


def never_worse(one, other):
    """Whether one is nowhere worse than the other one."""
    return worse_at(one, other) == (None, None, None)
