"""All errors of the package, also those that later stages raise.

An error keeps its fields as they are handed in. Its message is what Python makes of them.
"""


class ShelfError(ValueError):
    """The base of all errors of the package."""


class PaperError(ShelfError):
    """A paper, or a thing that is judged as one, is not accepted."""


class HallError(ShelfError):
    """A call cannot be answered."""


class LiveError(ShelfError):
    """An event, or a step back, is refused."""


class TextError(ShelfError):
    """A text is not one that the package writes."""


class InvalidPaper(PaperError):
    """word names the first entry of a checker's list that applies, at the place."""

    def __init__(self, word, at):
        self.word = word
        self.at = at


class NotUsable(HallError):
    """The parameter with this name is not as the document states."""

    def __init__(self, word, at):
        self.word = word
        self.at = at


class Unreadable(HallError):
    """A plan does not read: alike tells why."""

    def __init__(self, alike):
        self.alike = alike


class Lost(HallError):
    """Shelves cannot be lost: within is a word of keep that lies within them."""

    def __init__(self, within):
        self.within = within


class Torn(HallError):
    """Nothing has the digits that were handed in, or not just one thing: ways are all."""

    def __init__(self, ways):
        self.ways = ways


class TooMany(HallError):
    """There would be more than can be."""

    def __init__(self, many):
        self.many = many


class InvalidEvent(LiveError):
    """An event is refused for this reason."""

    def __init__(self, event, reason):
        self.event = event
        self.reason = reason


class NothingToUndo(LiveError):
    """There are fewer steps than were to be taken back."""

    def __init__(self, steps):
        self.steps = steps


class InvalidText(TextError):
    """The word with the index field of the line with the index line cannot stand."""

    def __init__(self, line, field):
        self.line = line
        self.field = field


class InvalidRow(TextError):
    """A desk has no answer to this row."""

    def __init__(self, row):
        self.row = row
