"""Events and logs as lines."""

from starshelves.booktexts import book_text, spaced
from starshelves.demands import demand
from starshelves.liveevents import is_event
from starshelves.replaying import is_log


def files_line(files):
    """The covers of each file, each file behind its sign."""
    return "".join([f" : {' , '.join([spaced(cover) for cover in file])}" for file in files])


def ask_line(event):
    """The line of an ask."""
    word, slot, plan, covers = event
    rounds = [f" / {spaced(mark)}{files_line(files)}" for mark, files in zip(plan, covers)]
    return "".join([f"{word} {spaced(slot)}", *rounds])


def numbers_of(part):
    """The numbers of a part of an event."""
    return part if isinstance(part, tuple) else (part,)


def event_line(event):
    """The line of the event."""
    demand(is_event(event), "event")
    word, *parts = event
    if word == "put":
        return f"put {' / '.join([spaced(row) for row in parts[0]])}"
    if word == "ask":
        return ask_line(event)
    return " ".join([word, *[spaced(numbers_of(part)) for part in parts]])


def log_lines(log):
    """The lines of the log: those of its hall, then of each event."""
    demand(is_log(log), "log")
    keep, hide = [book_text(book).split("\n") for book in log[0][1]]
    return [f"hall {len(keep)} {len(hide)}", *keep, *hide, *[event_line(event) for event in log[1:]]]
