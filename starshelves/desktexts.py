"""What a live hall has, in the words of a desk."""

from starshelves.booktexts import lot_text, spaced
from starshelves.eventtexts import event_line


def between(sign, texts):
    """The texts with the sign between; - without any."""
    return sign.join(texts) if len(texts) > 0 else "-"


def text_or_none(thing):
    """The number, or the string; - for None."""
    return "-" if thing is None else str(thing)


def files_text(live):
    """The words of each file."""
    return between(" / ", [",".join([spaced(row) for row in file]) for file in live.files_now])


def dealt_text(dealt):
    """The digits that a shelf holds; - for one that is lost, or holds nothing."""
    digits = [digit for part in dealt for digit in part] if dealt is not None else []
    return spaced(digits) if len(digits) > 0 else "-"


def held_text(live):
    """The digits of each shelf."""
    return between(" / ", [dealt_text(dealt) for dealt in live.held_now])


def round_text(answers):
    """The answers of a round; - without any."""
    return between(" ", [f"{shelf}:{digit}" for shelf, digit in answers])


def answers_text(live):
    """The answers of each round; - without an open ask."""
    answers = live.answers()
    return "-" if answers is None else " / ".join([round_text(part) for part in answers])


def lost_text(live):
    """The lost shelves."""
    return lot_text(live.lost_now)


def spoilt_text(live):
    """The spoilt shelves."""
    return lot_text(live.spoilt_now)


def read_text(live):
    """The wanted word."""
    word = live.reading()
    return "-" if word is None else spaced(word)


def told_text(live):
    """How much the answers tell."""
    return text_or_none(live.told())


def needed_text(live):
    """How few rounds more are enough."""
    return text_or_none(live.needed())


def state_text(live):
    """The state."""
    return live.state()


def events_text(live):
    """How many events there are."""
    return str(len(live))


def log_text(live):
    """The lines of the events."""
    return between("; ", [event_line(event) for event in live])


TEXTS = {
    "files": files_text, "held": held_text, "answers": answers_text, "lost": lost_text, "spoilt": spoilt_text,
    "read": read_text, "told": told_text, "needed": needed_text, "state": state_text, "events": events_text,
    "log": log_text,
}


def is_told(row):
    """Whether the row is one that told_for answers."""
    return row in TEXTS


def told_for(live, row):
    """What the live hall has of what the row names."""
    text = TEXTS[row]
    return text(live)
