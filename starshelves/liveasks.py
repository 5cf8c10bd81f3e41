"""What the answers so far tell of the open ask of a live hall. States are as in livestates."""

from starshelves.answered import word_of
from starshelves.errors import Torn, Unreadable
from starshelves.livestates import lost_in
from starshelves.lots import rest_of
from starshelves.reading import blind_book, told_rank
from starshelves.rounds import least_rounds


def answers_in(state):
    """The answers so far, round by round; None without an open ask."""
    _, _, asked, heard = state
    if asked is None:
        return None
    return tuple([tuple([(shelf, digits[turn]) for shelf, digits in heard]) for turn in range(len(asked[1]))])


def silences_in(hall, state):
    """For each round the lot of the shelves that have not answered."""
    _, _, asked, heard = state
    return (rest_of(hall[0][1], [shelf for shelf, _ in heard]),) * len(asked[1])


def reading_in(hall, state):
    """The wanted word by the answers so far; None if they do not tell it, and without an open ask."""
    asked = state[2]
    if asked is None:
        return None
    try:
        return word_of(hall, asked[1], answers_in(state))
    except (Unreadable, Torn):
        return None


def told_in(hall, state):
    """How much the answers so far tell; None without an open ask."""
    asked = state[2]
    return None if asked is None else told_rank(hall, asked[1], silences_in(hall, state))


def needed_in(hall, state):
    """How few rounds more are enough, by the shelves that are not lost."""
    _, held, asked, _ = state
    left = None if asked is None else blind_book(hall, asked[1], silences_in(hall, state))
    return least_rounds(hall, lost_in(held), left)


def word_for(hall, state):
    """The word for the state: idle, read or asking."""
    if state[2] is None:
        return "idle"
    return "asking" if reading_in(hall, state) is None else "read"
