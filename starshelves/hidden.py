"""Marks of which no lot of a family learns anything, and what lots see."""

from starshelves.askkinds import is_family
from starshelves.books import checks_of, cut_of, within_of, words_of
from starshelves.demands import demand
from starshelves.kinds import is_lot
from starshelves.ranks import rank_at
from starshelves.rows import picked, settled
from starshelves.seeing import demand_sight


def hidden_marks(hall, family):
    """The book of all marks of which no lot of the family learns anything."""
    demand(is_family(hall, family), "family")
    prime, size, _ = hall[1]
    checks = checks_of(hall[1])
    # Just those marks are hidden for which none of these words is a tell.
    words = [row for lot in family for row in within_of(checks, lot)[2]]
    return checks_of((prime, size, settled(prime, words)))


def hides_all(hall, family):
    """Whether no lot of the family learns anything of any mark."""
    return len(hidden_marks(hall, family)[2]) == hall[0][1]


def sight_count(hall, lot):
    """How many unlike tuples of digits the lot can see at one slot."""
    demand(is_lot(hall[0][1], lot), "lot")
    count = 1
    for _ in range(rank_at(hall[1], lot)):
        count = count * hall[0][0]
    return count


def seen_covers(hall, lot):
    """All unlike tuples of digits that covers have on the lot."""
    return words_of(cut_of(hall[1], lot)) if len(lot) > 0 else ((),)


def sights_at(hall, mark, lot):
    """The set of the tuples of digits that the lot can see at the slot that is asked for."""
    demand_sight(hall, mark, lot)
    prime = hall[0][0]
    own = picked(mark, lot)
    sights = [tuple([(left + right) % prime for left, right in zip(cover, own)]) for cover in seen_covers(hall, lot)]
    return tuple(sorted(sights))
