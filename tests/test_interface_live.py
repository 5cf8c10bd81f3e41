"""The interface of stages 20 to 24: where names are defined, their parameters by place and by name."""

import unittest

from starshelves.desk import Desk
from starshelves.live import LiveHall
from tests.helper import HALL, STOCK, check_calls, check_methods, raised

MARK = (1, 1, 0, 0)
OPEN = (HALL[0], (5, 4, ()))
SEEN = (((3,), (0,)), ((3,), (4,)))
LOG = (("hall", HALL), ("put", STOCK[0]), ("lose", 2))
LINES = ["hall 3 2", "book 5 4", "row 1 0 4 3", "row 0 1 2 3", "book 5 4", "row 1 1 1 1", "lose 2"]
CALLS = [
    ("hallchanges", "with_shelf", {"hall": HALL, "keeps": (2, 4), "hides": (1,)}),
    ("hallchanges", "without_shelf", {"hall": HALL, "shelf": 0}),
    ("hallchanges", "shortened", {"hall": HALL, "shelf": 0}),
    ("hallchanges", "renamed", {"hall": HALL, "order": (3, 1, 2, 0)}),
    ("hallchanges", "scaled", {"hall": HALL, "keeps": (1, 2, 3, 4), "hides": (4, 1, 1, 2)}),
    ("mendbooks", "learning_book", {"hall": HALL, "mark": MARK}),
    ("mendbooks", "reading_book", {"hall": HALL, "plan": (MARK,)}),
    ("comparing", "worse_at", {"one": HALL, "other": OPEN}),
    ("comparing", "never_worse", {"one": HALL, "other": OPEN}),
    ("tellback", "asked_slots", {"hall": HALL, "mark": MARK, "lot": (0, 2), "letters": SEEN}),
    ("tellback", "weights_by", {"hall": HALL, "mark": MARK, "lot": (0, 2), "letters": SEEN}),
    ("tellback", "mark_by", {"hall": HALL, "lot": (0, 2), "letters": SEEN, "slot": (1, 0)}),
    ("liveevents", "is_event", {"thing": ("lose", 2)}),
    ("live", "LiveHall", {"hall": HALL}),
    ("replaying", "is_log", {"thing": LOG}),
    ("replaying", "replayed", {"log": LOG}),
    ("eventtexts", "event_line", {"event": ("lose", 2)}),
    ("eventtexts", "log_lines", {"log": LOG}),
    ("eventreadings", "read_event", {"text": "lose 2"}),
    ("eventreadings", "read_log", {"lines": LINES}),
]
METHODS = [
    ("live", "LiveHall", ["hall"], {
        "hall_now": None, "files_now": None, "held_now": None, "lost_now": None, "spoilt_now": None, "asked_now": None, "is_shut": None, "put": ["file"],
        "drop": ["k"], "write": ["slot", "word"], "lose": ["shelf"], "mend": ["shelf"], "spoil": ["shelf", "slot", "digit"],
        "ask": ["slot", "plan", "covers"], "answer": ["shelf"], "close": [], "apply": ["event"], "__call__": ["event"], "state": [], "answers": [],
        "reading": [], "told": [], "learned": ["lot"], "needed": [], "barred": ["event"], "tried": ["*events"], "undo": [], "do_all": ["*events", "keep"],
        "tally": [], "log": [], "shut": [], "__contains__": ["thing"], "__len__": [], "__eq__": ["other"], "__iter__": [], "__enter__": [],
        "__exit__": ["kind", "value", "trace"],
    }),
    ("desk", "Desk", [], {"say": ["row"], "counts": []}),
]


class Interface(unittest.TestCase):
    def test_functions_and_classes(self):
        check_calls(self, CALLS)

    def test_methods_and_properties(self):
        check_methods(self, METHODS)

    def test_keep_is_passed_by_name_only_and_false_by_default(self):
        live = LiveHall(HALL)
        self.assertEqual(raised(live.do_all, ("lose", 0), True), ("InvalidEvent", {"event": True, "reason": "shape"}))
        self.assertEqual([live.do_all(("lose", 0), keep=True), live.do_all(("lose", 1), keep=False), len(live)], [1, 1, 2])

    def test_desks_are_made_of_nothing(self):
        self.assertEqual([Desk().counts(), vars(LiveHall)["MOST"]], [(0, 0), 40])


if __name__ == "__main__":
    unittest.main()
