"""The states of a live hall, and what each event makes of one. Nothing is checked here.

A state is a tuple of the files that ought to lie, of what each shelf holds (None if it is lost), of the open
ask, a triple (slot, plan, covers) or None, and of the pairs (shelf, digits) of those shelves that have
answered it, with a digit for each round.
"""

from starshelves.asking import all_letters, answer_by
from starshelves.fitting import rows_by, word_by
from starshelves.mending import menders_of
from starshelves.stocks import dealt_to, with_item, with_slot


def first_state(hall):
    """The state without files, in which no shelf is lost."""
    return ((), ((),) * hall[0][1], None, ())


def lost_in(held):
    """The lot of the lost shelves."""
    return tuple([shelf for shelf, dealt in enumerate(held) if dealt is None])


def spoilt_in(files, held):
    """The lot of those shelves that hold something else than they ought to."""
    return tuple([
        shelf for shelf, dealt in enumerate(held) if dealt is not None and dealt != dealt_to(files, shelf)
    ])


def mender_in(hall, held, shelf):
    """The first lot that mends the shelf and has no lost one; None without any."""
    for lot in menders_of(hall, shelf):
        if not any([held[other] is None for other in lot]):
            return lot
    return None


def mended_digits(hall, files, held, shelf):
    """What follows for the shelf, at each slot, from what the first of its menders hold."""
    lot = mender_in(hall, held, shelf)
    longer = rows_by(hall[0], lot)
    dealt = []
    for at, file in enumerate(files):
        # A least lot of menders is free in keep: so some word has whatever it holds.
        seen = [tuple([held[other][at][row] for other in lot]) for row in range(len(file))]
        dealt.append(tuple([word_by(hall[0], longer, digits)[shelf] for digits in seen]))
    return tuple(dealt)


def after_put(state, file):
    """The state with a file more."""
    files, held, asked, heard = state
    taken = [None if dealt is None else dealt + dealt_to((file,), shelf) for shelf, dealt in enumerate(held)]
    return ((*files, file), tuple(taken), asked, heard)


def after_drop(state, k):
    """The state without the file with this index."""
    files, held, asked, heard = state
    kept = [None if dealt is None else dealt[:k] + dealt[k + 1:] for dealt in held]
    return (files[:k] + files[k + 1:], tuple(kept), asked, heard)


def after_write(state, slot, word):
    """The state with this word at the slot."""
    files, held, asked, heard = state
    taken = [None if dealt is None else with_slot(dealt, slot, word[shelf]) for shelf, dealt in enumerate(held)]
    return (with_slot(files, slot, word), tuple(taken), asked, heard)


def with_held(state, shelf, dealt):
    """The state in which the shelf holds this."""
    files, held, asked, heard = state
    return (files, with_item(held, shelf, dealt), asked, heard)


def after_answer(hall, state, shelf):
    """The state with the answers of the shelf, by what it holds now."""
    files, held, asked, heard = state
    slot, plan, covers = asked
    letters = [all_letters(hall, (slot, mark), sent)[shelf] for mark, sent in zip(plan, covers)]
    digits = tuple([answer_by(hall[0][0], held[shelf], letter) for letter in letters])
    return (files, held, asked, tuple(sorted([*heard, (shelf, digits)])))


def state_after(hall, state, event):
    """The state after an event that is not refused."""
    files, held, _, _ = state
    word, *parts = event
    if word == "put":
        return after_put(state, parts[0])
    if word == "drop":
        return after_drop(state, parts[0])
    if word == "write":
        return after_write(state, parts[0], parts[1])
    if word == "lose":
        return with_held(state, parts[0], None)
    if word == "mend":
        return with_held(state, parts[0], mended_digits(hall, files, held, parts[0]))
    if word == "spoil":
        return with_held(state, parts[0], with_slot(held[parts[0]], parts[1], parts[2]))
    if word == "answer":
        return after_answer(hall, state, parts[0])
    return (files, held, tuple(parts) if word == "ask" else None, ())
