"""Logs: a hall and events, and live halls that follow them."""

from starshelves.demands import demand
from starshelves.kinds import is_tuple_of
from starshelves.live import LiveHall
from starshelves.liveevents import is_event
from starshelves.stockkinds import is_hall


def is_log(thing):
    """Whether any value is a tuple of ("hall", hall) and events by form."""
    if not isinstance(thing, tuple) or len(thing) == 0 or not is_tuple_of(2, thing[0]):
        return False
    word, hall = thing[0]
    return word == "hall" and is_hall(hall) and all([is_event(event) for event in thing[1:]])


def replayed(log):
    """A new live hall after the events of the log; InvalidEvent for the first one that is refused."""
    demand(is_log(log), "log")
    live = LiveHall(log[0][1])
    for event in log[1:]:
        live.take(event)
    return live
