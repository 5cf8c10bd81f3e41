"""[106]: a desk."""

import unittest

from starshelves.desk import Desk
from starshelves.eventtexts import event_line, log_lines
from starshelves.live import LiveHall
from tests.helper import HALL, HIDE, KEEP, LONG, NO_EVENTS, ODD, STOCK, Model, drawn_event, live_halls, raised, shown

MARKS, SENT = ((1, 1, 0, 0),), ((((3, 3, 3, 3),), ((4, 4, 4, 4),)),)
ASK = ("ask", (1, 0), MARKS, SENT)
PUTS = (("put", STOCK[0]), ("put", STOCK[1]))
START = "\n".join(log_lines((("hall", HALL),)))
ROWS = ("files", "held", "answers", "lost", "spoilt", "read", "told", "needed", "state", "events", "log")
NO_ROWS = (
    *ODD, 5, (), "", " ", "Files", "files ", " files", "files\n", "file", "held 0", "answer", "reading", "tell", "bars", "bars ", "bars undo", "bars shut", "bars files", "bars bars close",
    "bars  close", "bars close ", "Bars close", "undo 1", "undo ", "shut\n", "shut now", "counts", "say", "log 1", "hall 1 1", "hall 3 2", "ok", "idle", "close 1", "put", "put 1 /",
    "lose x", "lose 1\n", "close\nclose", START + "\n", START + "\nclose", START + "\nlose 1", "\n" + START, START.replace("hall 3 2", "hall 3 3"),
    "hall 1 1\nbook 5 4\nbook 5 4", "hall 2 1\nbook 5 1\nrow 1\nbook 5 2", "hall 2 1\nbook 5 1\nrow 1\nbook 7 1", START.replace(" ", "  "), [START], (START,), ["close"], ("close",),
)


def invalid_row(row):
    """What raised gives for a row that is none."""
    return "InvalidRow", {"row": row}


def desk_of(*events):
    """A desk with a live hall after these events."""
    desk = Desk()
    desk.say(START)
    for event in events:
        desk.say(event_line(event))
    return desk


def spaced(numbers):
    """Numbers with single spaces between, - without any."""
    return " ".join(str(number) for number in numbers) or "-"


def answers_by_hand(live):
    """What a desk says of a live hall to each row, by the properties and methods of it."""
    held = [spaced(digit for part in dealt or () for digit in part) for dealt in live.held_now]
    answers = live.answers()
    parts = ["-"] if answers is None else [" ".join(f"{shelf}:{digit}" for shelf, digit in part) or "-" for part in answers]
    return {
        "files": " / ".join(",".join(spaced(row) for row in file) for file in live.files_now) or "-",
        "held": " / ".join(held),
        "answers": " / ".join(parts),
        "lost": spaced(live.lost_now),
        "spoilt": spaced(live.spoilt_now),
        "read": spaced(live.reading() or ()),
        "told": "-" if live.told() is None else str(live.told()),
        "needed": "-" if live.needed() is None else str(live.needed()),
        "state": live.state(),
        "events": str(len(live)),
        "log": "; ".join(log_lines(live.log())[sum(map(len, [book[2] for book in live.hall_now])) + 3:]) or "-",
    }


class Rows(unittest.TestCase):
    def test_each_row_behind_drawn_events(self):
        for hall, chance in live_halls(501):
            desk, live, model = Desk(), LiveHall(hall), Model(hall)
            self.assertEqual(desk.say("\n".join(log_lines((("hall", hall),)))), "ok")
            for _ in range(25):
                event = drawn_event(chance, model)
                reasons, line = model.reasons(event), event_line(event)
                self.assertEqual(desk.say("bars " + line), reasons[0] if reasons else "-")
                if reasons:
                    self.assertEqual(raised(desk.say, line), ("InvalidEvent", {"event": event, "reason": reasons[0]}))
                else:
                    model.apply(event)
                    self.assertEqual(desk.say(line), live(event))
                if chance.random() < 0.15 and model.events:
                    model.undo()
                    self.assertEqual(desk.say("undo"), event_line(live.undo()))
                for row, told in answers_by_hand(live).items():
                    self.assertEqual(shown(desk.say(row)), shown(told))
            self.assertEqual(desk.say("shut"), "ok")

    def test_at_first(self):
        desk = desk_of()
        told = {"files": "-", "held": "- / - / - / -", "answers": "-", "lost": "-", "spoilt": "-", "read": "-", "told": "-", "needed": "1", "state": "idle", "events": "0", "log": "-"}
        self.assertEqual({row: desk.say(row) for row in ROWS}, told)

    def test_files_of_several_rows_lost_shelves_and_lies(self):
        desk = desk_of(("put", ((1, 2, 3, 4), (2, 2, 2, 2))), ("put", ((0, 1, 2, 3),)), ("lose", 2), ("spoil", 0, (0, 1), 0))
        self.assertEqual([desk.say(row) for row in ("files", "held", "lost", "spoilt", "events")],
                         ["1 2 3 4,2 2 2 2 / 0 1 2 3", "1 0 0 / 2 2 1 / - / 4 2 3", "2", "0", "4"])
        self.assertEqual(desk.say("log"), "put 1 2 3 4 / 2 2 2 2; put 0 1 2 3; lose 2; spoil 0 0 1 0")
        self.assertEqual([desk.say("lose 0"), desk.say("lost"), desk.say("spoilt")], ["idle", "0 2", "-"])

    def test_answers_round_by_round(self):
        two = ("ask", (1, 0), MARKS * 2, SENT * 2)
        desk = desk_of(*PUTS, two)
        self.assertEqual([desk.say(row) for row in ("answers", "read", "told", "needed", "state")], ["- / -", "-", "0", "1", "asking"])
        self.assertEqual([desk.say("answer 3"), desk.say("answer 0"), desk.say("answers")], ["asking", "asking", "0:3 3:0 / 0:3 3:0"])
        self.assertEqual([desk.say("answer 1"), desk.say("answer 2"), desk.say("read"), desk.say("told"), desk.say("needed"), desk.say("state")],
                         ["asking", "read", "2 2 2 2", "2", "0", "read"])
        self.assertEqual([desk.say("close"), desk.say("answers"), desk.say("read"), desk.say("told")], ["idle", "-", "-", "-"])

    def test_the_word_of_noughts_is_no_nothing(self):
        desk = desk_of(("put", ((0, 0, 0, 0),)), ("ask", (0, 0), MARKS, (SENT[0][:1],)), *[("answer", shelf) for shelf in range(4)])
        self.assertEqual([desk.say("read"), desk.say("held"), desk.say("answers")], ["0 0 0 0", "0 / 0 / 0 / 0", "0:0 1:0 2:0 3:0"])
        self.assertEqual([desk_of(("lose", 0)).say("lost"), desk_of(*[("lose", shelf) for shelf in range(3)]).say("needed")], ["0", "-"])

    def test_undo_shut_and_bars(self):
        desk = desk_of(*PUTS, ASK)
        self.assertEqual([desk.say("undo"), desk.say("undo"), desk.say("events")], [event_line(ASK), event_line(PUTS[1]), "1"])
        self.assertEqual([desk.say("bars close"), desk.say("bars lose 0"), desk.say("bars put 1"), desk.say("bars lose 9")], ["idle", "-", "file", "shelf"])
        self.assertEqual([desk.say("undo"), raised(desk.say, "undo")], [event_line(PUTS[0]), ("NothingToUndo", {"steps": 0})])
        self.assertEqual([desk.say("shut"), desk.say("shut"), desk.say("bars lose 0"), desk.say("state")], ["ok", "ok", "closed", "idle"])
        self.assertEqual(raised(desk.say, "undo"), ("InvalidEvent", {"event": ("undo",), "reason": "closed"}))
        self.assertEqual(raised(desk.say, "lose 0"), ("InvalidEvent", {"event": ("lose", 0), "reason": "closed"}))

    def test_a_log_makes_a_new_live_hall(self):
        desk = desk_of(*PUTS, ("lose", 0))
        desk.say("shut")
        self.assertEqual([desk.say(START), desk.say("events"), desk.say("lost"), desk.say("lose 1")], ["ok", "0", "-", "idle"])
        other = "\n".join(log_lines((("hall", ((3, 2, ((1, 1),)), (3, 2, ()))),)))
        self.assertEqual([desk.say(other), desk.say("held"), desk.say("needed"), desk.say("put 2 2"), desk.say("held")], ["ok", "- / -", "1", "idle", "2 / 2"])

    def test_a_log_with_events_behind_makes_no_row(self):
        desk = desk_of(*PUTS)
        for row in ("\n".join(log_lines((("hall", HALL), *PUTS))), START + "\nclose", START + "\n"):
            self.assertEqual(raised(desk.say, row), invalid_row(row))
        self.assertEqual(desk.say("events"), "2")


class NoRows(unittest.TestCase):
    def test_other_values(self):
        desk = desk_of(*PUTS, ASK)
        before = [desk.say(row) for row in ROWS]
        for row in (*NO_ROWS, *NO_EVENTS):
            if row == "close":
                continue
            with self.assertRaises(ValueError) as told:
                desk.say(row)
            self.assertEqual(told.exception.__class__.__name__, "InvalidRow")
            self.assertIs(told.exception.row, row)
        self.assertEqual([desk.say(row) for row in ROWS], before)

    def test_without_a_live_hall_all_but_the_lines_of_a_log(self):
        desk = Desk()
        for row in (*ROWS, "undo", "shut", "close", "lose 0", "bars close", "put 1 2 3 4", event_line(ASK), *NO_ROWS):
            self.assertEqual(raised(desk.say, row), invalid_row(row))
        self.assertEqual([desk.say(START), desk.say("bars close"), desk.say("lose 0")], ["ok", "idle", "idle"])

    def test_lines_of_what_is_no_log(self):
        for keep, hide in (((5, 4, ()), HIDE), (KEEP, (5, 3, ())), (KEEP, (7, 4, ()))):
            lines = [f"hall {len(keep[2]) + 1} {len(hide[2]) + 1}"]
            for prime, size, rows in (keep, hide):
                lines += [f"book {prime} {size}", *["row " + " ".join(map(str, row)) for row in rows]]
            self.assertEqual(raised(desk_of().say, "\n".join(lines)), invalid_row("\n".join(lines)))
        self.assertEqual(desk_of().say(START), "ok")


class Counts(unittest.TestCase):
    def test_calls_that_are_well_and_those_that_raise(self):
        desk, counted = Desk(), 0
        self.assertEqual(desk.counts(), (0, 0))
        for row in ("files", None, START, "files", "lose 0", "lose 0", "lose x", "undo", "undo", True, [], "shut", "lose 0", "undo", "bars lose 0", "", START, f"lose {LONG}"):
            raised(desk.say, row)
            counted += 1
            self.assertEqual(shown(desk.counts()), shown((counted, counted)))
            self.assertEqual(shown(desk.counts()), shown((counted, counted)))

    def test_by_name_and_desks_apart(self):
        one, other = Desk(), Desk()
        self.assertEqual([one.say(row=START), one.counts(), other.counts()], ["ok", (1, 1), (0, 0)])
        self.assertEqual([one.say("lose 0"), other.say(START), other.say("lost"), one.say("lost")], ["idle", "ok", "-", "0"])


if __name__ == "__main__":
    unittest.main()
