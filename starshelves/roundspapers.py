"""Papers on how few rounds are enough."""

from starshelves.rounds import best_lots, left_by, rounds_cut


def rounds_paper(hall, silent, left=None):
    """That all is known, shares and a cut that fewer do not pass, or a cut that no shares pass."""
    lots = best_lots(hall, silent, left)
    if lots is None:
        # What is left has no greater rank than this: so nothing of the rest can be on the cut.
        return ("never", rounds_cut(hall, silent, len(left_by(hall, left)[2]), left))
    if len(lots) == 0:
        return ("known",)
    return ("rounds", lots, rounds_cut(hall, silent, len(lots) - 1, left))
