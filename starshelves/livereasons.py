"""Why an event of a live hall is refused. States are as in livestates."""

from starshelves.askkinds import is_covering, is_plan
from starshelves.kinds import is_digit, is_word_in
from starshelves.liveevents import is_event
from starshelves.livestates import mender_in
from starshelves.stockkinds import is_file, is_slot

MOST_FILES = 4
MOST_ROWS = 3
MOST_ROUNDS = 8
WITHOUT_ASK = ("put", "drop", "write", "mend", "spoil", "ask")
WITH_ASK = ("answer", "close")
OF_SHELF = ("lose", "mend", "spoil", "answer")


def first_of(reasons):
    """The first reason that applies, of pairs of whether it does and its word; None without any."""
    for applies, reason in reasons:
        if applies:
            return reason
    return None


def shelf_reason(hall, held, word, shelf):
    """Why no such event can be at the shelf."""
    if shelf >= hall[0][1]:
        return "shelf"
    if word != "mend":
        return "lost" if held[shelf] is None else None
    if held[shelf] is not None:
        return "whole"
    return "alone" if mender_in(hall, held, shelf) is None else None


def ask_reason(hall, files, event):
    """Why the files cannot be asked for so."""
    _, slot, plan, covers = event
    return first_of((
        (not is_slot(files, slot), "slot"),
        (not is_plan(hall, plan) or len(plan) > MOST_ROUNDS, "plan"),
        (not all([is_covering(hall, files, sent) for sent in covers]), "covers"),
    ))


def write_reason(hall, files, event):
    """Why the slot cannot be written, or spoilt, so."""
    if event[0] == "write":
        return first_of(((not is_slot(files, event[1]), "slot"), (not is_word_in(hall[0], event[2]), "word")))
    return first_of(((not is_slot(files, event[2]), "slot"), (not is_digit(hall[0][0], event[3]), "digit")))


def part_reason(hall, state, event):
    """Why what the event has cannot be: the shelf aside, its files, slot, word, digit, plan and covers."""
    files, _, _, heard = state
    word = event[0]
    if word == "put":
        fits = is_file(hall, event[1]) and len(event[1]) <= MOST_ROWS
        return first_of(((not fits, "file"), (len(files) >= MOST_FILES, "many")))
    if word == "drop":
        return "file" if event[1] >= len(files) else None
    if word in ("write", "spoil"):
        return write_reason(hall, files, event)
    if word == "ask":
        return ask_reason(hall, files, event)
    return "again" if word == "answer" and event[1] in [shelf for shelf, _ in heard] else None


def reason_against(hall, state, event, is_shut, is_full):
    """The first reason for which any value is refused as an event; None if it is not."""
    if not is_event(event):
        return "shape"
    if is_shut:
        return "closed"
    if is_full:
        return "full"
    word = event[0]
    if word in WITHOUT_ASK and state[2] is not None:
        return "asking"
    if word in WITH_ASK and state[2] is None:
        return "idle"
    reason = shelf_reason(hall, state[1], word, event[1]) if word in OF_SHELF else None
    return part_reason(hall, state, event) if reason is None else reason
