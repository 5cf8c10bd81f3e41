"""Papers on whether a lot of shelves can be lost."""

from starshelves.books import checks_of, within_of
from starshelves.fitting import fitting_word
from starshelves.rows import unit_word


def mend_paper(hall, lot):
    """The checks that mend each shelf of the lot, or a word of keep that is lost with it."""
    keep = hall[0]
    unseen = within_of(keep, lot)[2]
    if len(unseen) > 0:
        return ("lost", unseen[0])
    checks = checks_of(keep)
    return ("mends", tuple([fitting_word(checks, lot, unit_word(len(lot), k)) for k in range(len(lot))]))
