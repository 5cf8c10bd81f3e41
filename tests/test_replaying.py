"""[103] and the first consequence at the end of the document: logs, and live halls that follow them."""

import unittest

from starshelves.live import LiveHall
from starshelves.replaying import is_log, replayed
from tests.helper import (
    HALL, HIDE, KEEP, NO_EVENTS, ODD, STOCK, Model, check_refused, drawn_event, live_halls, not_usable, raised, shown,
)

MARKS, SENT = ((1, 1, 0, 0),), ((((3, 3, 3, 3),), ((4, 4, 4, 4),)),)
HEAD = ("hall", HALL)
EVENTS = (("put", STOCK[0]), ("put", STOCK[1]), ("lose", 2), ("ask", (1, 0), MARKS, SENT), ("answer", 0))
NO_LOGS = (
    *ODD, 5, (), HEAD, [HEAD], (list(HEAD),), (("hall",),), (("hall", HALL, HALL),), (("hall", KEEP),), (("hall", (KEEP, (5, 3, ()))),), (("Hall", HALL),),
    (("hall", None),), ((None, HALL),), (HALL,), ("hall", HALL, EVENTS[0]), (EVENTS[0], HEAD), (HEAD, HEAD), (HEAD, EVENTS), (HEAD, list(EVENTS[0])),
    (("hall", ((5, 4, ()), HIDE)),), (("hall", [KEEP, HIDE]),), [HEAD, *EVENTS], (HEAD, *EVENTS, None), (HEAD, ("lose", True)),
)


class Logs(unittest.TestCase):
    def test_logs_of_events_possible_or_not(self):
        for log in ((HEAD,), (HEAD, *EVENTS), (HEAD, ("lose", 99), ("close",), ("put", ((9,),))), (HEAD, *EVENTS * 20), (("hall", (KEEP, (5, 4, ()))), ("drop", 0))):
            self.assertIs(is_log(log), True)

    def test_other_values(self):
        for thing in (*NO_LOGS, *[(HEAD, *EVENTS, event) for event in NO_EVENTS]):
            self.assertIs(is_log(thing), False, thing)

    def test_drawn_logs(self):
        for hall, chance in live_halls(481):
            model = Model(hall)
            events = tuple(drawn_event(chance, model) for _ in range(10))
            self.assertIs(is_log((("hall", hall), *events)), True)
            self.assertIs(is_log(LiveHall(hall).log()), True)


class Replayed(unittest.TestCase):
    def test_what_is_replayed_is_equal_unless_it_is_shut(self):
        for hall, chance in live_halls(482):
            live, model = LiveHall(hall), Model(hall)
            for _ in range(30):
                event = drawn_event(chance, model)
                if not model.reasons(event):
                    model.apply(event)
                    live(event)
                elif chance.random() < 0.2 and model.events:
                    model.undo()
                    live.undo()
            log = live.log()
            before = shown(log)
            other = replayed(log)
            self.assertIs(other.__class__, LiveHall)
            self.assertIs(other == live, True)
            self.assertEqual([other.tally(), other.is_shut], [(0, 0), False])
            self.assertEqual(shown([other.held_now, other.files_now, other.answers(), other.reading(), other.state(), other.log()]),
                             shown([live.held_now, live.files_now, live.answers(), live.reading(), live.state(), live.log()]))
            self.assertEqual(shown(log), before)
            live.shut()
            self.assertIs(replayed(log) == live, False)

    def test_a_log_without_events(self):
        live = replayed((HEAD,))
        self.assertEqual([live == LiveHall(HALL), live.tally(), live.lose(0), live.tally()], [True, (0, 0), "idle", (1, 1)])

    def test_each_time_a_new_one(self):
        one, other = replayed((HEAD, *EVENTS)), replayed((HEAD, *EVENTS))
        one.close()
        self.assertEqual([other.state(), one.state()], ["asking", "idle"])

    def test_the_first_event_that_is_refused(self):
        counted = 0
        for hall, chance in live_halls(483):
            model, events = Model(hall), []
            for _ in range(12):
                events.append(drawn_event(chance, model))
                if not model.reasons(events[-1]):
                    model.apply(events[-1])
            again, told = Model(hall), None
            for event in events:
                reasons = again.reasons(event)
                if reasons:
                    told = ("InvalidEvent", {"event": event, "reason": reasons[0]})
                    break
                again.apply(event)
            name, found = raised(replayed, (("hall", hall), *events))
            self.assertEqual((name, found) if told else name, told or "no error but")
            counted += told is not None
        self.assertGreater(counted, 3)

    def test_forty_events_and_one_more(self):
        events = (("lose", 0), ("mend", 0)) * 20
        self.assertEqual(len(replayed((HEAD, *events))), 40)
        self.assertEqual(raised(replayed, (HEAD, *events, ("lose", 9))), ("InvalidEvent", {"event": ("lose", 9), "reason": "full"}))

    def test_wrong_values(self):
        check_refused(self, replayed, (), {"log": (HEAD,)}, {"log": NO_LOGS})
        # An event that is none by form makes no log, also behind one that is refused.
        self.assertEqual(raised(replayed, (HEAD, ("lose", 9), ("lose",))), not_usable("log"))


if __name__ == "__main__":
    unittest.main()
