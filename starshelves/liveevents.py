"""Whether any value is an event of a live hall by form."""

from starshelves.kinds import is_number, is_tuple_of

# Events with one number, each.
SINGLE = ("drop", "lose", "mend", "answer")


def are_numbers(thing):
    """Whether any value is a nonempty tuple of numbers."""
    return isinstance(thing, tuple) and len(thing) > 0 and all([is_number(number) for number in thing])


def are_some_rows(thing):
    """Whether any value is a nonempty tuple of nonempty tuples of numbers."""
    return isinstance(thing, tuple) and len(thing) > 0 and all([are_numbers(row) for row in thing])


def are_some_files(thing):
    """Whether any value is a nonempty tuple of such rows."""
    return isinstance(thing, tuple) and len(thing) > 0 and all([are_some_rows(file) for file in thing])


def is_pair(thing):
    """Whether any value is a pair of numbers."""
    return is_tuple_of(2, thing) and are_numbers(thing)


def is_ask_form(thing):
    """Whether any value is an ask by form: a pair, words, and rows for each word."""
    if not is_tuple_of(4, thing):
        return False
    _, slot, plan, covers = thing
    if not is_pair(slot) or not are_some_rows(plan) or not is_tuple_of(len(plan), covers):
        return False
    return all([are_some_files(files) for files in covers])


def is_spoil_form(thing):
    """Whether any value is a spoiled slot by form: a shelf, a pair, and a digit."""
    return is_tuple_of(4, thing) and is_number(thing[1]) and is_pair(thing[2]) and is_number(thing[3])


def is_event(thing):
    """Whether any value is an event by form."""
    if not isinstance(thing, tuple) or len(thing) == 0:
        return False
    word = thing[0]
    if word in SINGLE:
        return is_tuple_of(2, thing) and is_number(thing[1])
    if word == "put":
        return is_tuple_of(2, thing) and are_some_rows(thing[1])
    if word == "write":
        return is_tuple_of(3, thing) and is_pair(thing[1]) and are_numbers(thing[2])
    if word == "spoil":
        return is_spoil_form(thing)
    if word == "ask":
        return is_ask_form(thing)
    return word == "close" and len(thing) == 1
