"""Papers on whether a lot of shelves learns what is asked."""

from starshelves.seeing import like_of, tell_of


def see_paper(hall, mark, lot):
    """A word of hide that looks like the mark, or a tell."""
    word = like_of(hall, mark, lot)
    return ("tell", tell_of(hall, mark, lot)) if word is None else ("like", word)
