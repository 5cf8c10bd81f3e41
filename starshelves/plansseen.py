"""Who learns by the letters of several rounds."""

from starshelves.askkinds import is_mark, is_plan
from starshelves.demands import demand
from starshelves.kinds import is_lot
from starshelves.rows import picked
from starshelves.seeing import learns


def plan_learns(hall, plan, lot):
    """Whether the lot learns of some mark of the plan."""
    demand(is_plan(hall, plan), "plan")
    demand(is_lot(hall[0][1], lot), "lot")
    return any([learns(hall, mark, lot) for mark in plan])


def twice_seen(hall, one, other, lot):
    """Whether the lot can tell the slot by two rounds with these marks, and the same covers in both."""
    demand(is_mark(hall, one), "one")
    demand(is_mark(hall, other), "other")
    demand(is_lot(hall[0][1], lot), "lot")
    # If both are the same on the lot, it learns of both or of none.
    return picked(one, lot) != picked(other, lot) or learns(hall, one, lot)
