"""[104], [105]: events and logs as lines, and read from them."""

import re
import unittest

from starshelves.bookreadings import book_read
from starshelves.booktexts import book_text
from starshelves.eventreadings import read_event, read_log
from starshelves.eventtexts import event_line, log_lines
from starshelves.replaying import is_log
from tests.helper import (
    HALL, HIDE, KEEP, LONG, NO_EVENTS, ODD, PRIMES, STOCK, Model, all_books, chance_of, check_refused, drawn_event, live_halls, not_usable, raised, shown,
    some_book,
)

MARKS, SENT = ((1, 1, 0, 0),), ((((3, 3, 3, 3),), ((4, 4, 4, 4),)),)
HEAD = ("hall", HALL)
LINES = {
    ("put", ((1, 2), (0, 0))): "put 1 2 / 0 0", ("put", ((7,),)): "put 7", ("put", ((1,), (2, 3), (LONG,))): f"put 1 / 2 3 / {LONG}", ("drop", 0): "drop 0",
    ("lose", 12): "lose 12", ("mend", LONG): f"mend {LONG}", ("answer", 3): "answer 3", ("close",): "close", ("write", (1, 0), (1, 2, 3, 4)): "write 1 0 1 2 3 4",
    ("write", (0, 2), (9,)): "write 0 2 9", ("spoil", 3, (1, 0), 4): "spoil 3 1 0 4", ("ask", (1, 0), MARKS, SENT): "ask 1 0 / 1 1 0 0 : 3 3 3 3 : 4 4 4 4",
    ("ask", (0, 0), ((1,), (2, 3)), ((((4,), (5, 6)), ((7,),)), (((8,),),))): "ask 0 0 / 1 : 4 , 5 6 : 7 / 2 3 : 8",
    ("ask", (0, 1), ((1,),), ((((4,), (5,), (6,)),),)): "ask 0 1 / 1 : 4 , 5 , 6",
}
NUMBER = r"(?:0|[1-9][0-9]{0,59})"
RUN = rf"{NUMBER}(?: {NUMBER})*"
EVENT = re.compile(
    rf"(?:put {RUN}(?: / {RUN})*|(?:drop|lose|mend|answer) {NUMBER}|write {NUMBER} {NUMBER} {RUN}|spoil(?: {NUMBER}){{4}}|close"
    rf"|ask {NUMBER} {NUMBER}(?: / {RUN}(?: : {RUN}(?: , {RUN})*)+)+)\Z")
# Whatever words can still follow, these make an event of each that can begin one.
ENDS = ("", " 0", " 0 0", " 0 0 0", " 0 0 0 0", " 0 0 / 0 : 0", " 0 / 0 : 0", " / 0 : 0", " 0 : 0", " : 0")
WORDS = ("", "0", "7", "12", "00", "01", "/", ":", ",", "x", "-", "-1", "+1", "1.0", "put", "close", "1\n", "\n", str(LONG), str(LONG + 1), "/:", "ask")


def field_by_hand(text):
    """The first word of an event's line that cannot stand, or how many words there are if one is missing; None if all is well."""
    words = text.split(" ")
    for field in range(len(words)):
        if not any(EVENT.match(" ".join(words[:field + 1]) + end) for end in ENDS):
            return field
    return None if EVENT.match(text) else len(words)


def wrong(line, field):
    """What raised gives for a line that is not possible."""
    return "InvalidText", {"line": line, "field": field}


def spoilt_line(chance, line):
    """The line with some words replaced, left out, doubled or added."""
    words = line.split(" ")
    for _ in range(chance.randint(0, 2)):
        at = chance.randrange(len(words) + 1)
        words[at:at + chance.randint(0, 1)] = [chance.choice(WORDS) for _ in range(chance.randint(0, 1))] or ([] if len(words) > 1 else [""])
    return " ".join(words)


class Lines(unittest.TestCase):
    """[104]."""

    def test_each_kind_of_event(self):
        for event, line in LINES.items():
            self.assertEqual(event_line(event), line)
            self.assertEqual(shown(read_event(line)), shown(event))
            self.assertIsNone(field_by_hand(line))

    def test_drawn_events(self):
        for hall, chance in live_halls(491):
            model = Model(hall)
            for _ in range(40):
                event = drawn_event(chance, model)
                line = event_line(event)
                self.assertIs(line.__class__, str)
                self.assertTrue(EVENT.match(line))
                self.assertEqual(shown(read_event(line)), shown(event))
                if not model.reasons(event):
                    model.apply(event)

    def test_lines_of_a_log(self):
        log = (HEAD, *LINES)
        told = ["hall 3 2", *book_text(KEEP).split("\n"), *book_text(HIDE).split("\n"), *LINES.values()]
        self.assertEqual(log_lines(log), told)
        self.assertIs(log_lines(log).__class__, list)
        self.assertIsNot(log_lines(log), log_lines(log))
        self.assertEqual(log_lines((("hall", (KEEP, (5, 4, ()))),)), ["hall 3 1", *told[1:4], "book 5 4"])

    def test_wrong_values(self):
        check_refused(self, event_line, (), {"event": ("close",)}, {"event": NO_EVENTS})
        logs = (*ODD, 5, (), HEAD, [HEAD], (HEAD, HEAD), (("hall", KEEP),), (HEAD, ("lose",)), (HEAD, None), (("hall", (KEEP, (5, 3, ()))),), [HEAD, ("close",)])
        check_refused(self, log_lines, (), {"log": (HEAD,)}, {"log": logs})


class EventsRead(unittest.TestCase):
    """[105], read_event."""

    def test_words_too_many_missing_and_empty(self):
        for line, field in (
            ("", 0), (" ", 0), ("x", 0), ("Put 1", 0), (" put 1", 0), ("close ", 1), ("close 1", 1), ("close\n", 0), ("put", 1), ("put ", 1), ("put /", 1), ("put 1 /", 3),
            ("put 1 / /", 3), ("put 1 : 2", 2), ("put 1 , 2", 2), ("put 1  2", 2), ("put 1 2 ", 3), ("put 01", 1), ("put 1\n/ 2", 1), ("put 1 / 2\n", 3), ("drop", 1),
            ("drop x", 1), ("drop 1 2", 2), ("drop -1", 1), ("lose ", 1), ("mend 1 ", 2), ("answer 1\n", 1), ("write", 1), ("write 1", 2), ("write 1 0", 3),
            ("write 1 0 /", 3), ("write 1 0 1 /", 4), ("write x 0 1", 1), ("spoil 1 0 0", 4), ("spoil 1 0 0 4 5", 5), ("spoil", 1), ("spoil 1 0 /", 3),
            ("ask", 1), ("ask 1", 2), ("ask 1 0", 3), ("ask 1 0 0", 3), ("ask 1 0 :", 3), ("ask 1 0 /", 4), ("ask 1 0 / :", 4), ("ask 1 0 / 1", 5), ("ask 1 0 / 1 /", 5),
            ("ask 1 0 / 1 ,", 5), ("ask 1 0 / 1 :", 6), ("ask 1 0 / 1 : /", 6), ("ask 1 0 / 1 : 2 ,", 8), ("ask 1 0 / 1 : 2 :", 8), ("ask 1 0 / 1 : 2 /", 8),
            ("ask 1 0 / 1 : 2 / 3", 9), ("ask 1 0 / 1 : 2 x", 7), ("ask 1 0 / 1 : 2 , : 3", 8), ("ask 1 0 / 1 : 2 / 3 , 4", 9), ("ask 1 0 / 1 2 : 2 ", 8),
            ("hall 1 1", 0), ("undo", 0), (f"lose {LONG + 1}", 1), ("lose 1_0", 1), ("lose +1", 1),
        ):
            self.assertEqual(raised(read_event, line), wrong(0, field), line)
            self.assertEqual(field_by_hand(line), field, line)

    def test_spoilt_lines_against_a_reading_by_hand(self):
        chance, seen = chance_of(492), set()
        for _ in range(4000):
            line = spoilt_line(chance, chance.choice(list(LINES.values())))
            field = field_by_hand(line)
            found = raised(read_event, line)
            if field is None:
                self.assertEqual(found[0], "no error but", line)
                self.assertEqual(event_line(found[1]), line)
            else:
                self.assertEqual(found, wrong(0, field), line)
            seen.add((line.split(" ")[0], field))
        self.assertGreater(len(seen), 70)

    def test_each_word_of_each_line_replaced_by_each_other_one(self):
        for line in LINES.values():
            words = line.split(" ")
            for at in range(len(words) + 1):
                for word in WORDS:
                    for spoilt in ([*words[:at], word, *words[at + 1:]], [*words[:at], word, *words[at:]], words[:at]):
                        text = " ".join(spoilt)
                        field, found = field_by_hand(text), raised(read_event, text)
                        self.assertEqual(found if field is not None else found[0], wrong(0, field) if field is not None else "no error but", text)

    def test_wrong_values(self):
        values = [thing for thing in (*ODD, 5, LONG, ["close"], ("close",), [], ()) if not isinstance(thing, str)]
        check_refused(self, read_event, (), {"text": "close"}, {"text": values})
        self.assertEqual(raised(read_event, "1"), wrong(0, 0))


class LogsRead(unittest.TestCase):
    """[105], read_log."""

    def test_what_log_lines_writes_read_log_reads(self):
        for hall, chance in live_halls(493):
            model, events = Model(hall), []
            for _ in range(chance.randint(0, 12)):
                events.append(drawn_event(chance, model))
                if not model.reasons(events[-1]):
                    model.apply(events[-1])
            log = (("hall", hall), *events)
            lines = log_lines(log)
            before = shown(lines)
            self.assertEqual(shown(read_log(lines)), shown(log))
            self.assertEqual(shown(lines), before)
            self.assertEqual(log_lines(read_log(lines)), lines)

    def test_halls_of_all_primes(self):
        chance = chance_of(494)
        for prime in PRIMES:
            for size in (1, 2, 5, 8):
                keep = some_book(chance, prime, size, chance.randint(1, size))
                log = (("hall", (keep, some_book(chance, prime, size))), ("close",))
                self.assertEqual(shown(read_log(log_lines(log))), shown(log))

    def test_two_books_that_are_no_hall(self):
        books = [*all_books(2, 2), *all_books(3, 1), *all_books(2, 1)]
        for keep in books:
            for hide in books:
                lines = [f"hall {len(keep[2]) + 1} {len(hide[2]) + 1}", *book_text(keep).split("\n"), *book_text(hide).split("\n"), "lose 1"]
                log = (("hall", (keep, hide)), ("lose", 1))
                self.assertEqual(shown(read_log(lines)), shown(log))
                self.assertIs(is_log(read_log(lines)), len(keep[2]) > 0 and keep[:2] == hide[:2])

    def test_the_first_line(self):
        rest = ["book 2 1", "book 2 1"]
        for line, field in (("", 0), ("x", 0), ("Hall 1 1", 0), ("hall", 1), ("hall ", 1), ("hall 0 1", 1), ("hall 1", 2), ("hall 1 0", 2), ("hall 1 x", 2), ("hall 1 1 1", 3),
                            ("hall 1 1 ", 3), ("hall 01 1", 1), ("hall -1 1", 1), ("hall  1", 1), ("close", 0), (f"hall {LONG + 1} 1", 1)):
            for lines in ([line, *rest], [line], [line, *rest, "x"]):
                self.assertEqual(raised(read_log, lines), wrong(0, field), line)
        self.assertEqual(raised(read_log, []), wrong(0, 0))
        self.assertEqual(raised(read_log, [""]), wrong(0, 0))

    def test_too_few_lines_come_behind_the_first_line_and_ahead_of_all_others(self):
        for lines in (["hall 1 1"], ["hall 1 1", "x"], ["hall 1 2", "x", "y"], ["hall 3 1", "", "", ""], [f"hall {LONG} {LONG}", "x"], ["hall 2 1", "book 2 1", "row 1"]):
            self.assertEqual(raised(read_log, lines), wrong(len(lines), 0))
        self.assertEqual(raised(read_log, ["hall 1 1", "x", "y"]), wrong(1, 0))

    def test_books_with_indexes_in_lines(self):
        good = ["hall 3 2", "book 5 4", "row 1 0 4 3", "row 0 1 2 3", "book 5 4", "row 1 1 1 1"]
        self.assertEqual(read_log(good), (HEAD,))
        for at, line, field in ((1, "book 4 4", 1), (1, "book 5", 2), (1, "row 1 0 4 3", 0), (2, "row 1 0 4", 4), (2, "row 1 0 4 5", 4), (2, "row 2 0 4 3", 0), (3, "row 1 0 4 3", 0),
                                (3, "row 0 1 2 3 ", 5), (3, "", 0), (4, "book 5 4 1", 3), (4, "row 1 1 1 1", 0), (4, "", 0), (5, "row 0 0 0 0", 0), (5, "book 5 4", 0), (5, "row 1 x 1 1", 2)):
            lines = [*good[:at], line, *good[at + 1:]]
            self.assertEqual(raised(read_log, lines), wrong(at, field), line)
            self.assertEqual(raised(read_log, [*lines, "no event"]), wrong(at, field), line)
        # Fewer lines than there are leave rows over: they are no events.
        self.assertEqual(raised(read_log, ["hall 2 1", *good[1:]]), wrong(3, 0))
        self.assertEqual(raised(read_log, ["hall 3 1", *good[1:]]), wrong(5, 0))
        self.assertEqual(raised(read_log, ["hall 4 1", *good[1:]]), wrong(4, 0))

    def test_books_as_book_read_reads_them(self):
        chance = chance_of(495)
        words = ("", "0", "1", "2", "row", "book", "x", "00", "-")
        for _ in range(400):
            books = [book_text(some_book(chance, 3, chance.randint(1, 3))).split("\n") for _ in range(2)]
            for lines in books:
                if chance.random() < 0.4:
                    at = chance.randrange(len(lines))
                    parts = lines[at].split(" ")
                    parts[chance.randrange(len(parts))] = chance.choice(words)
                    lines[at] = " ".join(parts)
            told, start = None, 1
            for lines in books:
                name, found = raised(book_read, "\n".join(lines))
                if told is None and name == "InvalidText":
                    told = wrong(found["line"] + start, found["field"])
                start += len(lines)
            name, found = raised(read_log, [f"hall {len(books[0])} {len(books[1])}", *books[0], *books[1]])
            self.assertEqual((name, found) if told else name, told or "no error but")

    def test_lines_of_events(self):
        good = log_lines((HEAD, *LINES))
        chance = chance_of(496)
        for _ in range(400):
            at = chance.randrange(6, len(good))
            line = spoilt_line(chance, good[at])
            field = field_by_hand(line)
            if "\n" in line:
                self.assertEqual(raised(read_log, [*good[:at], line, *good[at + 1:]]), not_usable("lines"))
            elif field is not None:
                self.assertEqual(raised(read_log, [*good[:at], line, *good[at + 1:]]), wrong(at, field))
                self.assertEqual(raised(read_log, [*good[:at], line, "x", *good[at + 1:]]), wrong(at, field))

    def test_wrong_values(self):
        good = log_lines((HEAD,))
        values = [thing for thing in ODD if not isinstance(thing, list)]
        values += [5, tuple(good), "\n".join(good), [*good, None], [*good, 1], [[*good]], [*good, ["close"]], [*good, "close\n"], ["hall 3 2\n", *good[1:]], ["\n".join(good)], [True]]
        check_refused(self, read_log, (), {"lines": good}, {"lines": values})
        self.assertEqual(read_log(lines=good), (HEAD,))

    def test_a_log_of_the_stock(self):
        log = (HEAD, ("put", STOCK[0]), ("ask", (0, 0), MARKS * 2, SENT * 2))
        self.assertEqual(read_log(log_lines(log)), log)


if __name__ == "__main__":
    unittest.main()
