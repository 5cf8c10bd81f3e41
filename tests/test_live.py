"""[97] to [102] and the consequences at the end of the document: live halls."""

import unittest

from starshelves.answered import word_of
from starshelves.live import LiveHall
from starshelves.plansseen import plan_learns
from starshelves.reading import blind_book, told_rank
from starshelves.rounds import least_rounds
from starshelves.stocks import shelf_of
from tests.helper import (
    HALL, HIDE, KEEP, LONG, NO_BOOKS, NO_EVENTS, NO_LOTS, ODD, PRIMES, STOCK, Model, drawn_event, fields_of, invalid, live_halls,
    not_usable, raised, rest_of, shown, some_halls, some_lot,
)

MARKS, SENT = ((1, 1, 0, 0),), ((((3, 3, 3, 3),), ((4, 4, 4, 4),)),)
ASK = ("ask", (1, 0), MARKS, SENT)
PUTS = (("put", STOCK[0]), ("put", STOCK[1]))
DEAD = ((5, 4, ((1, 0, 4, 0), (0, 1, 2, 0))), HIDE)


def refused(event, reason):
    """What raised gives for an event that is refused."""
    return "InvalidEvent", {"event": event, "reason": reason}


def live_of(*events, hall=HALL):
    """A live hall after these events."""
    live = LiveHall(hall)
    live.do_all(*events)
    return live


def picture(live):
    """All that a live hall tells, but its tally, and whether it is shut."""
    told = [live.hall_now, live.files_now, live.held_now, live.lost_now, live.spoilt_now, live.asked_now]
    told += [live.state(), live.answers(), live.reading(), live.told(), live.learned((0,)), live.needed(), live.log(), list(live), len(live)]
    return shown(told)


def readings_by_functions(hall, model):
    """What reading, told, needed and the state are, by the functions that the document names for them."""
    if model.asked is None:
        return None, None, least_rounds(hall, model.lost_now()), "idle"
    plan, answers = model.asked[1], model.answers()
    silences = (rest_of(hall[0][1], sorted(model.heard)),) * len(plan)
    kind, word = raised(word_of, hall, plan, answers)
    reading = word if kind == "no error but" else None
    needed = least_rounds(hall, model.lost_now(), blind_book(hall, plan, silences))
    return reading, told_rank(hall, plan, silences), needed, "asking" if reading is None else "read"


class Followed(unittest.TestCase):
    """Drawn events, with a model that is followed by hand."""

    def check(self, live, model, lot):
        """All that the live hall tells is what the model, and the functions that the document names, tell."""
        hall = model.hall
        self.assertEqual(
            shown([live.hall_now, live.files_now, live.held_now, live.lost_now, live.spoilt_now, live.asked_now, live.is_shut]),
            shown([hall, model.files_now(), model.held_now(), model.lost_now(), model.spoilt_now(), model.asked, False]))
        self.assertEqual(shown(live.answers()), shown(model.answers()))
        reading, told, needed, state = readings_by_functions(hall, model)
        self.assertEqual(shown([live.reading(), live.told(), live.needed(), live.state()]), shown([reading, told, needed, state]))
        self.assertEqual(shown(live.learned(lot)), shown(model.asked and plan_learns(hall, model.asked[1], lot)))
        self.assertEqual(shown([live.log(), list(live), len(live)]), shown([(("hall", hall), *model.events), model.events, len(model.events)]))
        return state

    def test_each_event_its_reasons_and_all_that_is_told(self):
        seen, states = set(), set()
        for hall, chance in live_halls(471):
            live, model, calls = LiveHall(hall), Model(hall), 0
            for _ in range(90):
                event = drawn_event(chance, model)
                reasons = model.reasons(event)
                before, many = picture(live), len(live)
                told = live.barred(event)
                self.assertEqual(told, reasons[0] if reasons else None, (hall, model.events, event, reasons))
                tried = raised(live.tried, event)
                self.assertEqual(picture(live), before)
                found = raised(live.apply, event)
                calls += 1
                if reasons:
                    self.assertEqual([found, tried], [refused(event, reasons[0])] * 2)
                    self.assertIs(found[1]["event"], event)
                    self.assertEqual([picture(live), len(live)], [before, many])
                    seen.add((event[0], reasons[0]))
                else:
                    model.apply(event)
                    state = self.check(live, model, some_lot(chance, hall[0][1]))
                    self.assertEqual([found, tried], [("no error but", state)] * 2)
                    states.add(state)
                    seen.add((event[0], None))
                if chance.random() < 0.1 and model.events:
                    self.assertEqual(shown(live.undo()), shown(model.undo()))
                    self.check(live, model, ())
                    calls += 1
                self.assertEqual(live.tally(), (calls, calls))
        kinds = ("put", "drop", "write", "lose", "mend", "spoil", "ask", "answer", "close")
        self.assertLessEqual({(kind, None) for kind in kinds}, seen)
        self.assertEqual(states, {"idle", "asking", "read"})
        self.assertLessEqual({("put", "full"), ("put", "file"), ("put", "many"), ("write", "slot"), ("write", "word"), ("spoil", "slot"), ("ask", "slot"),
                              ("ask", "covers"), ("ask", "plan"), ("mend", "whole"), ("mend", "alone"), ("lose", "lost"), ("lose", "shelf"),
                              ("answer", "again"), ("spoil", "lost"), ("drop", "file")}, seen)

    def test_undo_takes_back_step_by_step(self):
        for hall, chance in live_halls(472):
            live, model, pictures = LiveHall(hall), Model(hall), []
            for _ in range(25):
                event = drawn_event(chance, model)
                if not model.reasons(event):
                    pictures.append(picture(live))
                    live(event)
                    model.apply(event)
            for event in reversed(model.events):
                self.assertEqual(shown(live.undo()), shown(event))
                self.assertEqual(picture(live), pictures.pop())
            self.assertEqual(raised(live.undo), ("NothingToUndo", {"steps": 0}))
            self.assertTrue(live == LiveHall(hall))

    def test_events_together_with_keep_and_without(self):
        seen = set()
        for hall, chance in [*live_halls(473), *live_halls(479)]:
            model, events = Model(hall), []
            for _ in range(chance.choice((2, 6, 8, 14))):
                events.append(drawn_event(chance, model))
                if not model.reasons(events[-1]):
                    model.apply(events[-1])
            other, good = Model(hall), []
            for event in events:
                reasons = other.reasons(event)
                if reasons:
                    break
                other.apply(event)
                good.append(event)
            else:
                reasons = []
            for keep in (True, False):
                live = LiveHall(hall)
                found = raised(live.do_all, *events, keep=keep)
                self.assertEqual(found, refused(events[len(good)], reasons[0]) if reasons else ("no error but", len(events)))
                self.assertEqual(list(live), good if keep or not reasons else [])
                self.assertEqual(live.tally(), (1, 1))
                if keep or not reasons:
                    self.check(live, other, ())
                else:
                    self.assertEqual(picture(live), picture(LiveHall(hall)))
                self.assertEqual(raised(LiveHall(hall).tried, *events)[0], "InvalidEvent" if reasons else "no error but")
            seen.add((bool(reasons), len(good) > 3))
        self.assertLessEqual({(True, True), (True, False), (False, False)}, seen)


class Halls(unittest.TestCase):
    """[97]."""

    def test_at_first(self):
        for hall, _ in some_halls(474, 2):
            size = hall[0][1]
            live = LiveHall(hall)
            self.assertEqual(shown([live.hall_now, live.files_now, live.held_now, live.lost_now, live.spoilt_now, live.asked_now, live.is_shut]),
                             shown([hall, (), ((),) * size, (), (), None, False]))
            self.assertEqual([live.state(), live.answers(), live.reading(), live.told(), live.learned(()), live.tally(), list(live), len(live)],
                             ["idle", None, None, None, None, (0, 0), [], 0])
            self.assertEqual(live.needed(), least_rounds(hall, ()))
            self.assertEqual(live.log(), (("hall", hall),))

    def test_halls_that_are_none(self):
        for wrong in (*ODD, 5, (), KEEP, [KEEP, HIDE], (KEEP, HIDE, HIDE)):
            self.assertEqual(raised(LiveHall, wrong)[0], "InvalidPaper")
        for wrong in NO_BOOKS:
            if not (isinstance(wrong, tuple) and len(wrong) == 3 and wrong[1:] == (4, ())):
                self.assertEqual(raised(LiveHall, (wrong, HIDE)), invalid("keep"))
        self.assertEqual(raised(LiveHall, (KEEP, (5, 3, ()))), invalid("like"))
        self.assertEqual(raised(LiveHall, (KEEP, None)), invalid("hide"))
        self.assertEqual(raised(LiveHall, KEEP), invalid("shape"))

    def test_most_is_a_class_value(self):
        self.assertEqual([LiveHall.MOST, LiveHall(HALL).MOST], [40, 40])
        few = Few(HALL)
        self.assertEqual([few.lose(0), few.lose(1), few.barred(("lose", 2)), few.barred(("lose",))], ["idle", "idle", "full", "shape"])

    def test_properties_are_not_assigned(self):
        for name in ("hall_now", "files_now", "held_now", "lost_now", "spoilt_now", "asked_now", "is_shut"):
            with self.assertRaises(AttributeError):
                setattr(LiveHall(HALL), name, 1)

    def test_without_files(self):
        live = live_of(("lose", 0), ("lose", 1))
        self.assertEqual([live.held_now, live.lost_now, live.spoilt_now], [(None, None, (), ()), (0, 1), ()])
        self.assertEqual([live.mend(1), live.held_now], ["idle", (None, (), (), ())])
        for event, reason in ((ASK, "slot"), (("write", (0, 0), (1, 1, 1, 1)), "slot"), (("drop", 0), "file"), (("spoil", 2, (0, 0), 1), "slot")):
            self.assertEqual(live.barred(event), reason)

    def test_all_shelves_lost(self):
        live = live_of(*PUTS, *[("lose", shelf) for shelf in range(4)])
        self.assertEqual([live.held_now, live.lost_now, live.spoilt_now, live.needed()], [(None,) * 4, (0, 1, 2, 3), (), None])
        self.assertEqual([live.barred(("mend", shelf)) for shelf in range(4)], ["alone"] * 4)
        self.assertEqual([live.write((0, 0), (1, 1, 1, 1)), live.files_now, live.drop(0), live.files_now], ["idle", (((1, 1, 1, 1),), STOCK[1]), "idle", (STOCK[1],)])
        self.assertEqual([live.barred(("ask", (0, 0), MARKS, ((SENT[0][1],),))), live.held_now], [None, (None,) * 4])

    def test_four_files_of_three_rows(self):
        file = ((1, 2, 3, 4), (2, 2, 2, 2), (0, 0, 0, 0))
        live = live_of(*[("put", file)] * 4)
        self.assertEqual([live.files_now, live.held_now[1]], [(file,) * 4, ((2, 2, 0),) * 4])
        self.assertEqual([live.barred(("put", file)), live.barred(("put", (*file, file[0])))], ["many", "file"])
        self.assertEqual([live.drop(1), live.barred(("put", (*file, file[0]))), live.put(file), len(live.files_now)], ["idle", "file", "idle", 4])

    def test_a_shelf_that_is_0_in_all_words_mends_by_nothing(self):
        live = live_of(("put", ((1, 2, 3, 0), (0, 1, 2, 0))), *[("lose", shelf) for shelf in range(4)], hall=DEAD)
        self.assertEqual([live.barred(("mend", 0)), live.mend(3), live.held_now], ["alone", "idle", (None, None, None, ((0, 0),))])
        self.assertEqual(live_of(("lose", 3), ("mend", 3), hall=DEAD).held_now, ((),) * 4)


class Refused(unittest.TestCase):
    """[99]: each reason alone, and the order where several apply."""

    def check(self, ahead, event, reason, hall=HALL):
        live = live_of(*ahead, hall=hall)
        before = picture(live)
        self.assertEqual(live.barred(event), reason, event)
        self.assertEqual(raised(live.apply, event), refused(event, reason))
        self.assertEqual(raised(live, event), refused(event, reason))
        self.assertEqual(raised(live.do_all, event), refused(event, reason))
        self.assertEqual(raised(live.tried, event), refused(event, reason))
        self.assertEqual([picture(live), live.tally()], [before, (4, 4)])

    def test_values_that_are_no_events(self):
        shut = live_of(*PUTS)
        shut.shut()
        for thing in NO_EVENTS:
            self.check((*PUTS, ASK), thing, "shape")
            self.assertEqual(shut.barred(thing), "shape")

    def test_asking_and_idle(self):
        for event in (*PUTS, ("drop", 0), ("write", (0, 0), (1, 1, 1, 1)), ("mend", 3), ("spoil", 0, (0, 0), 1), ASK):
            self.check((*PUTS, ("lose", 3), ASK), event, "asking")
        for event in (("drop", 9), ("write", (9, 9), (9,)), ("mend", 9), ("spoil", 9, (9, 9), 9), ("put", ((9,),)), ("ask", (9, 9), ((9,),), ((((9,),),),))):
            self.check((*PUTS, ASK), event, "asking")
        for event in (("answer", 0), ("answer", LONG), ("close",)):
            self.check(PUTS, event, "idle")

    def test_shelves(self):
        for word in ("lose", "mend"):
            self.check(PUTS, (word, 4), "shelf")
            self.check((), (word, LONG), "shelf")
        self.check(PUTS, ("spoil", 4, (9, 9), 9), "shelf")
        self.check((*PUTS, ASK), ("answer", 4), "shelf")
        for event in (("lose", 0), ("spoil", 0, (9, 9), 9)):
            self.check((*PUTS, ("lose", 0)), event, "lost")
        self.check((*PUTS, ("lose", 0), ASK), ("answer", 0), "lost")
        self.check((*PUTS, ASK, ("lose", 0)), ("lose", 0), "lost")
        self.check(PUTS, ("mend", 0), "whole")
        self.check((*PUTS, ("lose", 0), ("lose", 1), ("lose", 2)), ("mend", 0), "alone")
        self.check((*PUTS, ("lose", 0), ("lose", 1), ("lose", 2)), ("mend", 3), "whole")

    def test_a_shelf_that_nothing_mends(self):
        alone = ((5, 3, ((1, 0, 0), (0, 1, 2))), (5, 3, ()))
        self.check((("lose", 0),), ("mend", 0), "alone", alone)
        self.check((("lose", 1), ("lose", 2)), ("mend", 1), "alone", alone)

    def test_files(self):
        for rows in (((1, 2, 3, 4),) * 4, ((1, 2, 3, 0),), ((1, 2, 3),), ((1, 2, 3, 4, 0),), ((1, 2, 3, 4), (0, 0, 0, 5)), ((1, 2, 3, LONG),)):
            self.check((), ("put", rows), "file")
            self.check((PUTS[0],) * 4, ("put", rows), "file")
        self.check((PUTS[0],) * 4, PUTS[1], "many")
        for k in (2, 3, LONG):
            self.check(PUTS, ("drop", k), "file")

    def test_slots_words_and_digits(self):
        for slot in ((2, 0), (0, 1), (1, 1), (LONG, LONG)):
            self.check(PUTS, ("write", slot, (9, 9)), "slot")
            self.check(PUTS, ("spoil", 0, slot, 9), "slot")
            self.check(PUTS, ("ask", slot, ((9,),), ((((9,),),),)), "slot")
        for word in ((1, 2, 3, 0), (1, 2, 3), (1, 2, 3, 4, 0), (5, 5, 5, 5), (LONG,)):
            self.check(PUTS, ("write", (0, 0), word), "word")
        for digit in (5, 6, LONG):
            self.check(PUTS, ("spoil", 0, (0, 0), digit), "digit")

    def test_plans_and_covers(self):
        for plan in (((1, 1, 0),), ((1, 1, 0, 5),), ((1, 1, 0, 0, 0),), ((1, 1, 0, 0), (9,)), ((1, 1, 0, 0),) * 9):
            self.check(PUTS, ("ask", (0, 0), plan, SENT * len(plan)), "plan")
            self.check(PUTS, ("ask", (0, 0), plan, ((((9,),),),) * len(plan)), "plan")
        for files in (((((3, 3, 3, 3),),)), (((3, 3, 3, 3),), ((4, 4, 4, 4), (0, 0, 0, 0))), (((3, 3, 3, 3),), ((4, 4, 4, 3),)), (((9,),), ((9,),)),
                      (((3, 3, 3, 3),), ((4, 4, 4, 4),), ((4, 4, 4, 4),)), (((3, 3, 3, 3),), ((5, 5, 5, 5),))):
            self.check(PUTS, ("ask", (0, 0), MARKS, (files,)), "covers")
            self.check(PUTS, ("ask", (0, 0), MARKS * 2, (SENT[0], files)), "covers")
        self.assertIsNone(live_of(*PUTS).barred(("ask", (0, 0), MARKS * 8, SENT * 8)))

    def test_again(self):
        self.check((*PUTS, ASK, ("answer", 2)), ("answer", 2), "again")
        # A shelf that is lost behind its answer is told as lost.
        self.check((*PUTS, ASK, ("answer", 2), ("lose", 2)), ("answer", 2), "lost")
        live = live_of(*PUTS, ASK, ("answer", 2), ("close",), ASK)
        self.assertEqual(live.answer(2), "asking")

    def test_full(self):
        live = LiveHall(HALL)
        self.assertEqual(live.do_all(*PUTS, *[("write", (0, 0), (1, 1, 1, 1))] * 38), 40)
        for event in (*PUTS, ("close",), ("answer", 9), ("lose", 9), ("drop", 9), ASK, ("mend", 0)):
            self.assertEqual(live.barred(event), "full")
            self.assertEqual(raised(live.apply, event), refused(event, "full"))
        self.assertEqual(live.barred(PUTS), "shape")
        self.assertEqual(raised(live.tried, ("lose", 0)), refused(("lose", 0), "full"))
        self.assertEqual(live.undo(), ("write", (0, 0), (1, 1, 1, 1)))
        self.assertEqual(live.tried(("lose", 0)), "idle")
        self.assertEqual(raised(live.tried, ("lose", 0), ("lose", 1)), refused(("lose", 1), "full"))
        self.assertEqual(raised(live.do_all, ("lose", 0), ("lose", 9), keep=True), refused(("lose", 9), "full"))
        self.assertEqual([len(live), live.tried()], [40, "idle"])
        live.shut()
        self.assertEqual([live.barred(("lose", 0)), live.barred(("lose",))], ["closed", "shape"])

    def test_an_event_is_kept_as_the_very_object(self):
        live, event = LiveHall(HALL), ["no", "event"]
        with self.assertRaises(ValueError) as told:
            live.apply(event)
        self.assertIs(told.exception.event, event)
        file = [[1, 2]]
        with self.assertRaises(ValueError) as told:
            live.put(file)
        self.assertEqual([told.exception.event[0], told.exception.reason], ["put", "shape"])
        self.assertIs(told.exception.event[1], file)


class Methods(unittest.TestCase):
    """[100], [101]: a method for each event, and what is told of asks."""

    def test_each_method_applies_its_event(self):
        covers = (((3, 3, 3, 3),),)
        calls = (
            ("put", {"file": STOCK[0]}), ("drop", {"k": 0}), ("put", {"file": STOCK[0]}), ("write", {"slot": (0, 0), "word": (1, 1, 1, 1)}),
            ("lose", {"shelf": 2}), ("mend", {"shelf": 2}), ("spoil", {"shelf": 1, "slot": (0, 0), "digit": 3}),
            ("ask", {"slot": (0, 0), "plan": MARKS, "covers": (covers,)}), ("answer", {"shelf": 0}), ("close", {}),
        )
        one, other, third, fourth = (LiveHall(HALL) for _ in range(4))
        for word, given in calls:
            event = (word, *given.values())
            told = {shown(getattr(one, word)(*given.values())), shown(getattr(other, word)(**given)), shown(third.apply(event=event)), shown(fourth(event=event))}
            self.assertEqual(len(told), 1)
            self.assertTrue(one == other == third == fourth)
            self.assertEqual(one.log()[-1], event)
        self.assertEqual([live.tally() for live in (one, other, third, fourth)], [(10, 10)] * 4)

    def test_methods_refuse_any_values_as_events(self):
        live = live_of(*PUTS, ASK)
        for word, many in (("put", 1), ("drop", 1), ("lose", 1), ("mend", 1), ("answer", 1), ("write", 2), ("spoil", 3), ("ask", 3)):
            for wrong in (None, True, -1, "0", [0], (), ((),)):
                given = (wrong,) * many
                self.assertEqual(raised(getattr(live, word), *given), refused((word, *given), "shape"))
        self.assertEqual(raised(live.put, STOCK[0]), refused(("put", STOCK[0]), "asking"))

    def test_learned_refuses_lots_ahead_of_all(self):
        for live in (LiveHall(HALL), live_of(*PUTS, ASK)):
            for wrong in NO_LOTS:
                self.assertEqual(raised(live.learned, wrong), not_usable("lot"))
        self.assertEqual([live.learned(lot=(0, 2)), live.learned((0, 1)), LiveHall(HALL).learned((0, 2))], [True, False, None])

    def test_state_follows_what_is_read(self):
        live = live_of(*PUTS, ASK)
        self.assertEqual([live.answer(shelf) for shelf in (3, 1, 0, 2)], ["asking", "asking", "asking", "read"])
        self.assertEqual([live.answers(), live.reading(), live.told(), live.needed()], [(((0, 3), (1, 1), (2, 2), (3, 0)),), (2, 2, 2, 2), 2, 0])
        self.assertEqual([live.lose(0), live.lose(1), live.needed(), live.reading()], ["read", "read", 0, (2, 2, 2, 2)])
        self.assertEqual([live.undo(), live.undo(), live.undo(), live.state(), live.answers()[0]],
                         [("lose", 1), ("lose", 0), ("answer", 2), "asking", ((0, 3), (1, 1), (3, 0))])

    def test_lies_are_told_as_none(self):
        live = live_of(*PUTS, ("spoil", 0, (1, 0), 4), ASK, *[("answer", shelf) for shelf in range(4)])
        self.assertEqual([live.state(), live.reading() is None, live.told()], ["read", False, 2])
        level = ((5, 4, ((1, 1, 1, 1),)), (5, 4, ((1, 1, 1, 1),)))
        spoilt = live_of(("put", ((2, 2, 2, 2),)), ("spoil", 0, (0, 0), 4), ("ask", (0, 0), ((1, 1, 0, 0),), ((((0, 0, 0, 0),),),)),
                         *[("answer", shelf) for shelf in range(4)], hall=level)
        self.assertEqual([spoilt.reading(), spoilt.told(), spoilt.state()], [None, 1, "asking"])

    def test_needed_by_what_is_left(self):
        live = live_of(*PUTS, ASK, ("answer", 0), ("answer", 1), ("answer", 2))
        self.assertEqual([live.told(), live.needed()], [1, 1])
        self.assertEqual([live.lose(3), live.needed(), live.lose(2), live.needed(), live.close(), live.needed()], ["asking", 1, "asking", None, "idle", None])
        self.assertEqual([live.undo(), live.needed(), live.undo(), live.needed()], [("close",), None, ("lose", 2), 1])


class Kept(unittest.TestCase):
    """[102]."""

    def test_an_empty_do_all_and_an_empty_tried(self):
        live = live_of(*PUTS, ASK)
        self.assertEqual([live.do_all(), live.do_all(keep=True), live.tried(), live.tally()], [0, 0, "asking", (3, 3)])
        live.shut()
        self.assertEqual([live.do_all(), live.tried(), live.do_all(keep=True)], [0, "asking", 0])

    def test_keep_is_a_bool(self):
        live = live_of(*PUTS)
        for at, wrong in enumerate((None, 0, 1, "True", (), [], (True,), LONG)):
            self.assertEqual(raised(live.do_all, ("lose", 0), keep=wrong), not_usable("keep"))
            self.assertEqual(raised(live.do_all, None, keep=wrong), not_usable("keep"))
            self.assertEqual(live.tally(), (2 * at + 3, 2 * at + 3))
        live.shut()
        self.assertEqual(raised(live.do_all, ("lose", 0), keep=1), not_usable("keep"))
        self.assertEqual(live.log(), (("hall", HALL), *PUTS))

    def test_tried_by_many_events(self):
        live = live_of(*PUTS)
        before, tally = picture(live), live.tally()
        self.assertEqual(live.tried(("lose", 3), ASK, ("answer", 0)), "asking")
        self.assertEqual(live.tried(ASK, *[("answer", shelf) for shelf in range(4)]), "read")
        self.assertEqual(live.tried(ASK, ("close",), ("drop", 1), ("drop", 0)), "idle")
        self.assertEqual(raised(live.tried, ASK, ("drop", 1), None), refused(("drop", 1), "asking"))
        self.assertEqual(raised(live.tried, None, ("drop", 1)), refused(None, "shape"))
        self.assertEqual([picture(live), live.tally()], [before, tally])

    def test_do_all_is_as_before_the_first_one_or_the_refused_one(self):
        for keep in (True, False):
            live = live_of(*PUTS, ("lose", 3))
            before = picture(live)
            self.assertEqual(raised(live.do_all, ("mend", 3), ASK, ("answer", 9), ("answer", 0), keep=keep), refused(("answer", 9), "shelf"))
            self.assertEqual(picture(live), picture(live_of(*PUTS, ("lose", 3), ("mend", 3), ASK)) if keep else before)
            self.assertEqual(live.tally(), (2, 2))
        live = live_of(*PUTS)
        self.assertEqual(raised(live.do_all, ("lose", 0), ("lose", 0)), refused(("lose", 0), "lost"))
        self.assertEqual([live.lost_now, len(live), live.tally()], [(), 2, (2, 2)])

    def test_undo_behind_a_kept_do_all(self):
        live = LiveHall(HALL)
        raised(live.do_all, *PUTS, ("lose", 9), keep=True)
        self.assertEqual([live.undo(), live.undo()], [PUTS[1], PUTS[0]])
        self.assertEqual(raised(live.undo), ("NothingToUndo", {"steps": 0}))
        self.assertEqual(live.tally(), (4, 4))

    def test_shut(self):
        live = live_of(*PUTS)
        before = picture(live)
        self.assertIsNone(live.shut())
        self.assertIs(live.is_shut, True)
        self.assertIsNone(live.shut())
        self.assertEqual(picture(live), before)
        for event in (*PUTS, ("close",), ("lose", 9), ASK):
            self.assertEqual(live.barred(event), "closed")
            self.assertEqual(raised(live.apply, event), refused(event, "closed"))
        self.assertEqual(raised(live.apply, None), refused(None, "shape"))
        self.assertEqual(raised(live.undo), refused(("undo",), "closed"))
        empty = LiveHall(HALL)
        empty.shut()
        self.assertEqual(raised(empty.undo), refused(("undo",), "closed"))
        self.assertEqual([live.tally(), empty.tally()], [(10, 10), (2, 2)])

    def test_with_gives_itself_and_shuts_it_at_the_end(self):
        live = live_of(*PUTS)
        with live as same:
            self.assertIs(same, live)
            self.assertIs(live.is_shut, False)
            self.assertEqual(same.lose(0), "idle")
        self.assertEqual([live.is_shut, live.tally(), len(live)], [True, (2, 2), 3])
        with live as same:
            self.assertIs(same, live)
        self.assertEqual([live.is_shut, live.tally()], [True, (2, 2)])

    def test_with_an_error_which_goes_on(self):
        live = LiveHall(HALL)
        for error in (KeyError("x"), ValueError("y")):
            with self.assertRaises(error.__class__) as told:
                with live:
                    raise error
            self.assertIs(told.exception, error)
            self.assertIs(live.is_shut, True)
        with self.assertRaises(ValueError):
            with LiveHall(HALL) as other:
                other.lose(9)
        self.assertEqual([other.is_shut, other.tally(), live.tally()], [True, (1, 1), (0, 0)])

    def test_events_that_are_in_it(self):
        live = live_of(*PUTS, ("lose", 0), ("lose", 1))
        for event in live:
            self.assertIs(event in live, True)
        for thing in (*NO_EVENTS, ("lose", 2), ("lose", False), ("lose", True), ["lose", 0], ("put", [STOCK[0][0]]), ("hall", HALL), live, ASK, ("close",)):
            self.assertIs(thing in live, False)
        self.assertEqual([live.undo(), ("lose", 1) in live], [("lose", 1), False])

    def test_equality(self):
        one, other = live_of(*PUTS), Derived(HALL)
        self.assertIs(one == other, False)
        self.assertEqual([other.put(STOCK[0]), other.put(STOCK[1])], ["idle", "idle"])
        for left, right in ((one, other), (other, one)):
            self.assertEqual([left == right, left != right], [True, False])
        other.shut()
        self.assertEqual([one == other, other == one, one != other], [False, False, True])
        one.shut()
        self.assertEqual([one == other, other == one], [True, True])
        for thing in (HALL, one.log(), None, 1, LiveHall(HALL), LiveHall((KEEP, (5, 4, ()))), live_of(*reversed(PUTS)), live_of(*PUTS, ("lose", 0))):
            self.assertEqual([one == thing, thing == one, one != thing], [False, False, True])

    def test_live_halls_of_unlike_halls(self):
        for hall in ((KEEP, (5, 4, ())), (KEEP, KEEP), (HIDE, HIDE), ((7, 4, ((1, 1, 1, 1),)), (7, 4, ()))):
            self.assertEqual([LiveHall(hall) == LiveHall(HALL), LiveHall(HALL) != LiveHall(hall), LiveHall(hall) == Derived(hall)], [False, True, True])

    def test_the_same_by_other_events_is_not_equal(self):
        one, other = live_of(*PUTS), live_of(*PUTS, ("lose", 0), ("mend", 0))
        self.assertEqual([one.held_now == other.held_now, one == other], [True, False])
        other.undo()
        other.undo()
        self.assertIs(one == other, True)

    def test_counts_of_all_calls_and_no_others(self):
        live = LiveHall(HALL)
        before = {"_started": 0, "_finished": 0}
        for call in (live.state, live.answers, live.reading, live.told, live.needed, live.log, live.tally, live.tried):
            call()
        raised(live.tried, None)
        raised(live.learned, None)
        self.assertEqual([live.learned(()), live.barred(None), list(live), len(live), None in live, live == LiveHall(HALL)], [None, "shape", [], 0, False, True])
        self.assertEqual({name: fields_of(live)[name] for name in before}, before)
        counted = 0
        for call, given in ((live.put, (STOCK[0],)), (live.drop, (0,)), (live.drop, (0,)), (live.put, (None,)), (live.write, (0, 0)), (live.lose, (9,)), (live.mend, (0,)),
                            (live.spoil, (0, 0, 0)), (live.ask, (0, 0, 0)), (live.answer, (0,)), (live.close, ()), (live.apply, (None,)), (live, (None,)),
                            (live, (("lose", 0),)), (live.undo, ()), (live.do_all, ()), (live.do_all, (None, None)), (live.do_all, (("lose", 0), ("lose", 1))),
                            (live.undo, ()), (live.undo, ()), (live.shut, ()), (live.shut, ()), (live.undo, ()), (live.lose, (0,))):
            raised(call, *given)
            counted += 1
            self.assertEqual(live.tally(), (counted, counted))

    def test_halls_are_apart(self):
        one, other = live_of(*PUTS), live_of(*PUTS)
        one.lose(0)
        self.assertEqual([other.lost_now, other.tally(), len(other)], [(), (1, 1), 2])


class Mended(unittest.TestCase):
    """What mend puts back is what the first of its menders without a lost shelf gives, right or not."""

    def test_by_spoilt_shelves(self):
        live = live_of(("put", ((1, 2, 3, 4),)), ("spoil", 1, (0, 0), 0), ("lose", 0))
        # The first menders of shelf 0 are 1 and 2: a straight line by 0 and 3 begins with 2.
        self.assertEqual([live.mend(0), live.held_now[0], live.spoilt_now], ["idle", ((2,),), (0, 1)])
        self.assertEqual([live.undo(), live.lose(1), live.mend(0), live.held_now[0], live.spoilt_now], [("mend", 0), "idle", "idle", ((1,),), ()])

    def test_a_mended_shelf_is_right_where_none_is_spoilt(self):
        for hall, chance in live_halls(475):
            model = Model(hall)
            words = sorted(model.words)
            live = live_of(*[("put", tuple(chance.choice(words) for _ in range(2))) for _ in range(2)], hall=hall)
            for shelf in some_lot(chance, hall[0][1]):
                live.lose(shelf)
            for shelf in live.lost_now:
                if live.barred(("mend", shelf)) is None:
                    live.mend(shelf)
                    self.assertEqual(live.held_now[shelf], shelf_of(hall, live.files_now, shelf))
            self.assertEqual(live.spoilt_now, ())


class Consequences(unittest.TestCase):
    """Those at the end of the document, at many inputs."""

    def test_read_tells_the_row_if_no_shelf_was_spoilt_when_it_answered(self):
        counted = 0
        for hall, chance in [pair for seed in (476, 477, 478) for pair in live_halls(seed)]:
            live, model, spoilt = LiveHall(hall), Model(hall), False
            for _ in range(40):
                event = drawn_event(chance, model)
                if model.reasons(event):
                    continue
                model.apply(event)
                if event[0] == "ask":
                    spoilt = False
                if event[0] == "answer":
                    spoilt = spoilt or event[1] in live.spoilt_now
                before = live.told(), live.needed()
                state = live(event)
                if event[0] == "answer":
                    self.assertGreaterEqual(live.told(), before[0])
                    if before[1] is not None:
                        self.assertLessEqual(live.needed(), before[1])
                if state == "read" and not spoilt:
                    at, row = live.asked_now[0]
                    self.assertEqual(live.reading(), live.files_now[at][row])
                    counted += 1
        self.assertGreater(counted, 20)

    def test_all_primes(self):
        for prime in PRIMES:
            hall = ((prime, 3, ((1, 1, 1),)), (prime, 3, ((1, 1, 1),)))
            live = live_of(("put", ((1, 1, 1),)), ("ask", (0, 0), ((1, 0, 0),), ((((1, 1, 1),),),)), hall=hall)
            self.assertEqual([live.answer(0), live.answer(1), live.reading(), live.needed()], ["asking", "read", (1, 1, 1), 0])
            self.assertEqual([live.learned((0,)), live.learned((0, 1)), live.learned((1, 2))], [False, True, False])


class Few(LiveHall):
    """A live hall of few events."""

    MOST = 2


class Derived(LiveHall):
    """A class derived from LiveHall."""


if __name__ == "__main__":
    unittest.main()
