"""Events and logs read from lines."""

from starshelves.bookreadings import book_in, number_in
from starshelves.demands import demand
from starshelves.errors import InvalidText
from starshelves.kinds import is_size
from starshelves.liveevents import SINGLE


def number_at(words, line, at):
    """The number that stands at this field; InvalidText if there is none."""
    number = number_in(words[at]) if at < len(words) else None
    if number is None:
        raise InvalidText(line, at)
    return number


def run_at(words, line, at):
    """All numbers that stand from this field on, one at least."""
    numbers = [number_at(words, line, at)]
    for word in words[at + 1:]:
        number = number_in(word)
        if number is None:
            break
        numbers.append(number)
    return tuple(numbers)


def is_sign_at(words, at, sign):
    """Whether the sign stands at this field."""
    return at < len(words) and words[at] == sign


def rows_at(words, line, at, sign):
    """The rows that stand from this field on, one at least, with the sign between; and the field behind them."""
    row = run_at(words, line, at)
    rows, end = (row,), at + len(row)
    while is_sign_at(words, end, sign):
        row = run_at(words, line, end + 1)
        rows, end = (*rows, row), end + 1 + len(row)
    return rows, end


def files_at(words, line, at):
    """The rows of each file that stand from this field on, one file at least; and the field behind them."""
    files, end = (), at
    while is_sign_at(words, end, ":"):
        rows, end = rows_at(words, line, end + 1, ",")
        files = (*files, rows)
    if len(files) == 0:
        raise InvalidText(line, at)
    return files, end


def ask_at(words, line):
    """The ask that the words write; and the field behind it."""
    slot = (number_at(words, line, 1), number_at(words, line, 2))
    plan, covers, end = (), (), 3
    while is_sign_at(words, end, "/"):
        mark = run_at(words, line, end + 1)
        files, end = files_at(words, line, end + 1 + len(mark))
        plan, covers = (*plan, mark), (*covers, files)
    if len(plan) == 0:
        raise InvalidText(line, end)
    return ("ask", slot, plan, covers), end


def spoil_at(words, line):
    """The spoiled slot that the words write; and the field behind it."""
    shelf, at, row, digit = [number_at(words, line, field) for field in range(1, 5)]
    return ("spoil", shelf, (at, row), digit), 5


def write_at(words, line):
    """The written slot that the words write; and the field behind it."""
    slot = (number_at(words, line, 1), number_at(words, line, 2))
    word = run_at(words, line, 3)
    return ("write", slot, word), 3 + len(word)


def put_at(words, line):
    """The file that the words write; and the field behind it."""
    rows, end = rows_at(words, line, 1, "/")
    return ("put", rows), end


def event_at(words, line):
    """The event that the words write; and the field behind it."""
    word = words[0]
    if word in SINGLE:
        return (word, number_at(words, line, 1)), 2
    if word == "put":
        return put_at(words, line)
    if word == "write":
        return write_at(words, line)
    if word == "spoil":
        return spoil_at(words, line)
    if word == "ask":
        return ask_at(words, line)
    if word != "close":
        raise InvalidText(line, 0)
    return ("close",), 1


def event_in(text, line):
    """The event that the text of a line writes."""
    words = text.split(" ")
    event, end = event_at(words, line)
    if end < len(words):
        raise InvalidText(line, end)
    return event


def read_event(text):
    """The event that the string writes."""
    demand(isinstance(text, str), "text")
    return event_in(text, 0)


def counts_in(words):
    """How many lines keep and hide have, as the words of the first line of a log write."""
    for field, word in enumerate(words):
        stands = word == "hall" if field == 0 else field < 3 and is_size(number_in(word))
        if not stands:
            raise InvalidText(0, field)
    if len(words) < 3:
        raise InvalidText(0, len(words))
    return number_in(words[1]), number_in(words[2])


def are_lines(thing):
    """Whether any value is a list of strings without newlines."""
    return isinstance(thing, list) and all([isinstance(line, str) and "\n" not in line for line in thing])


def read_log(lines):
    """The log that the lines write, perhaps of two books that are no hall."""
    demand(are_lines(lines), "lines")
    ahead = lines[0] if len(lines) > 0 else ""
    kept, hidden = counts_in(ahead.split(" "))
    start = 1 + kept + hidden
    if len(lines) < start:
        raise InvalidText(len(lines), 0)
    keep = book_in(lines[1:1 + kept], 1)
    hide = book_in(lines[1 + kept:start], 1 + kept)
    events = [event_in(line, k) for k, line in enumerate(lines[start:], start=start)]
    return (("hall", (keep, hide)), *events)
