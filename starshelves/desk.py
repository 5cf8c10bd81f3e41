"""A desk: rows of text that a live hall answers."""

from starshelves.desktexts import is_told, text_or_none, told_for
from starshelves.errors import InvalidRow, InvalidText
from starshelves.eventreadings import read_event, read_log
from starshelves.eventtexts import event_line
from starshelves.live import LiveHall
from starshelves.replaying import is_log

BARS = "bars "


def hall_in(row):
    """The hall of the log without events that the row writes; None if it writes none."""
    try:
        log = read_log(row.split("\n"))
    except InvalidText:
        return None
    return log[0][1] if is_log(log) and len(log) == 1 else None


def event_or_none(text):
    """The event that the text writes; None if it writes none."""
    try:
        return read_event(text)
    except InvalidText:
        return None


def event_answer(live, row):
    """The answer to the line of an event, or to one that asks whether it would be refused."""
    is_asked = row.startswith(BARS)
    event = event_or_none(row[len(BARS):] if is_asked else row)
    if event is None:
        raise InvalidRow(row)
    return text_or_none(live.barred(event)) if is_asked else live.apply(event)


def live_answer(live, row):
    """The answer of the live hall to the row."""
    if is_told(row):
        return told_for(live, row)
    if row == "undo":
        return event_line(live.undo())
    if row == "shut":
        live.shut()
        return "ok"
    return event_answer(live, row)


class Desk:
    """A desk with a live hall, at first none."""

    def __init__(self):
        self._live = None
        self._started = 0
        self._finished = 0

    def say(self, row):
        """The answer to any row."""
        self._started += 1
        try:
            return self.answer_to(row)
        finally:
            self._finished = self._started

    def answer_to(self, row):
        """The answer, uncounted."""
        if not isinstance(row, str):
            raise InvalidRow(row)
        hall = hall_in(row)
        if hall is not None:
            self._live = LiveHall(hall)
            return "ok"
        if self._live is None:
            raise InvalidRow(row)
        return live_answer(self._live, row)

    def counts(self):
        """How many calls of say were started, and finished."""
        return (self._started, self._finished)
