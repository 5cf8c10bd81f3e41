"""A live hall: its files and shelves, and what is asked of them, event by event."""

from starshelves.demands import demand
from starshelves.errors import InvalidEvent, NothingToUndo
from starshelves.hallchecker import lets_hall
from starshelves.kinds import is_lot
from starshelves.liveasks import answers_in, needed_in, reading_in, told_in, word_for
from starshelves.liveevents import is_event
from starshelves.livereasons import reason_against
from starshelves.livestates import first_state, lost_in, spoilt_in, state_after
from starshelves.plansseen import plan_learns


class LiveHall:
    """A hall that is followed event by event."""

    MOST = 40

    def __init__(self, hall):
        lets_hall(hall)
        self._hall = hall
        # The first state, and behind it the one after each event.
        self._states = (first_state(hall),)
        self._events = ()
        self._is_shut = False
        self._started = 0
        self._finished = 0

    @property
    def hall_now(self):
        """The hall."""
        return self._hall

    @property
    def files_now(self):
        """The files that ought to lie."""
        return self._states[-1][0]

    @property
    def held_now(self):
        """What each shelf holds; None for one that is lost."""
        return self._states[-1][1]

    @property
    def lost_now(self):
        """The lot of the lost shelves."""
        return lost_in(self._states[-1][1])

    @property
    def spoilt_now(self):
        """The lot of those others that hold something else than they ought to."""
        return spoilt_in(self._states[-1][0], self._states[-1][1])

    @property
    def asked_now(self):
        """The slot, the plan and the covers of the open ask, or None."""
        return self._states[-1][2]

    @property
    def is_shut(self):
        """Whether events are refused from now on."""
        return self._is_shut

    def put(self, file):
        """Add the file."""
        return self.apply(("put", file))

    def drop(self, k):
        """Take the file with this index away."""
        return self.apply(("drop", k))

    def write(self, slot, word):
        """Write the word at the slot."""
        return self.apply(("write", slot, word))

    def lose(self, shelf):
        """Lose what the shelf holds."""
        return self.apply(("lose", shelf))

    def mend(self, shelf):
        """Give the shelf what follows from what others hold."""
        return self.apply(("mend", shelf))

    def spoil(self, shelf, slot, digit):
        """Let the shelf hold this digit at the slot."""
        return self.apply(("spoil", shelf, slot, digit))

    def ask(self, slot, plan, covers):
        """Ask for the slot by the plan, with these covers."""
        return self.apply(("ask", slot, plan, covers))

    def answer(self, shelf):
        """Let the shelf answer in all rounds."""
        return self.apply(("answer", shelf))

    def close(self):
        """Forget the ask and its answers."""
        return self.apply(("close",))

    def apply(self, event):
        """Apply any event; the state then."""
        self._started += 1
        try:
            self.take(event)
            return self.state()
        finally:
            self._finished = self._started

    def __call__(self, event):
        """Apply any event; the state then."""
        return self.apply(event)

    def further(self, states, event):
        """The states with the one after the event behind them; InvalidEvent if it is refused."""
        reason = self.reason_at(states, event)
        if reason is not None:
            raise InvalidEvent(event, reason)
        return (*states, state_after(self._hall, states[-1], event))

    def reason_at(self, states, event):
        """The reason for which the event would be refused behind these states; None if it would not."""
        return reason_against(self._hall, states[-1], event, self._is_shut, len(states) > self.MOST)

    def take(self, event):
        """Apply the event, uncounted."""
        self._states = self.further(self._states, event)
        self._events = (*self._events, event)

    def state(self):
        """idle without an open ask, read if the answers tell the wanted word, otherwise asking."""
        return word_for(self._hall, self._states[-1])

    def answers(self):
        """The answers so far; None without an open ask."""
        return answers_in(self._states[-1])

    def reading(self):
        """The wanted word by the answers so far; None if they do not tell it."""
        return reading_in(self._hall, self._states[-1])

    def told(self):
        """How much the answers so far tell; None without an open ask."""
        return told_in(self._hall, self._states[-1])

    def learned(self, lot):
        """Whether the lot learns what is asked; None without an open ask."""
        demand(is_lot(self._hall[0][1], lot), "lot")
        asked = self._states[-1][2]
        return None if asked is None else plan_learns(self._hall, asked[1], lot)

    def needed(self):
        """How few rounds more are enough, by the shelves that are not lost."""
        return needed_in(self._hall, self._states[-1])

    def barred(self, event):
        """The reason for which any value would be refused; None if it would not."""
        return self.reason_at(self._states, event)

    def tried(self, *events):
        """The state as it would be after these events, or the error of the first that would be refused."""
        states = self._states
        for event in events:
            states = self.further(states, event)
        return word_for(self._hall, states[-1])

    def undo(self):
        """Take back the last event, and return it."""
        self._started += 1
        try:
            return self.take_back()
        finally:
            self._finished = self._started

    def take_back(self):
        """Take back the last event, uncounted."""
        if self._is_shut:
            raise InvalidEvent(("undo",), "closed")
        if len(self._events) == 0:
            raise NothingToUndo(0)
        event = self._events[-1]
        self._states = self._states[:-1]
        self._events = self._events[:-1]
        return event

    def do_all(self, *events, keep=False):
        """Apply the events in order, and return how many they are; if one is refused, keep those before it or none."""
        self._started += 1
        try:
            demand(isinstance(keep, bool), "keep")
            return self.take_all(events, keep)
        finally:
            self._finished = self._started

    def take_all(self, events, keep):
        """Apply the events, uncounted."""
        states, before = self._states, self._events
        try:
            for event in events:
                self.take(event)
        except InvalidEvent:
            if not keep:
                self._states, self._events = states, before
            raise
        return len(events)

    def tally(self):
        """How many operations were started, and finished."""
        return (self._started, self._finished)

    def log(self):
        """The hall, and the events that were not undone."""
        return (("hall", self._hall), *self._events)

    def shut(self):
        """Refuse events from now on."""
        self._started += 1
        self._is_shut = True
        self._finished = self._started

    def __enter__(self):
        return self

    def __exit__(self, kind, value, trace):
        self._is_shut = True

    def __contains__(self, thing):
        """Whether any value is equal to one of the events that were not undone."""
        return is_event(thing) and thing in self._events

    def __len__(self):
        """How many events there are that were not undone."""
        return len(self._events)

    def __iter__(self):
        return iter(self._events)

    def __eq__(self, other):
        return (
            isinstance(other, LiveHall) and self._hall == other._hall and self._events == other._events
            and self._is_shut == other._is_shut
        )
