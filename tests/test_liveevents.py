"""[96]: whether any value is an event by form."""

import unittest

from starshelves.liveevents import is_event
from tests.helper import HALL, LONG, NO_EVENTS, STOCK, Model, chance_of, drawn_event, is_event_by_hand, live_halls, shown

COVERS = ((((3, 3, 3, 3),), ((4, 4, 4, 4),)),)
EVENTS = (
    ("put", ((1, 2, 3, 4),)), ("put", ((0,), (1, 2), (LONG,))), ("drop", 0), ("drop", LONG), ("lose", 7), ("mend", 0), ("answer", 3), ("close",),
    ("write", (0, 0), (1, 2, 3, 4)), ("write", (LONG, LONG), (0,)), ("spoil", 0, (0, 0), 0), ("spoil", LONG, (1, 2), LONG),
    ("ask", (1, 0), ((1, 1, 0, 0),), COVERS), ("ask", (0, 0), ((1,), (2, 3)), ((((1,), (2,)), ((3,),)), (((LONG, 0),),))), ("put", (STOCK[0][0],) * 5),
)


class Events(unittest.TestCase):
    def test_events_by_form_possible_or_not(self):
        for event in EVENTS:
            before = shown(event)
            self.assertIs(is_event(event), True, event)
            self.assertIs(is_event_by_hand(event), True, event)
            self.assertEqual(shown(event), before)

    def test_other_values(self):
        for thing in (*NO_EVENTS, *[list(event) for event in EVENTS], *[event[:-1] for event in EVENTS], *[(*event, 1) for event in EVENTS],
                      *[event[1:] for event in EVENTS], HALL, STOCK):
            self.assertIs(is_event(thing), False, thing)
            self.assertIs(is_event_by_hand(thing), False, thing)

    def test_each_part_replaced_by_each_other_one(self):
        parts = (0, 5, True, None, "0", (), (0,), (0, 0), (0, 0, 0), ((0,),), ((0, 1), (2,)), (((0,),),), COVERS, [0], [(0,)], ((0,), ()), -1, ((0, True),), (0, False))
        counted = 0
        for event in EVENTS:
            for at in range(len(event)):
                for part in parts:
                    thing = (*event[:at], part, *event[at + 1:])
                    self.assertIs(is_event(thing), is_event_by_hand(thing), thing)
                    counted += is_event(thing)
        self.assertGreater(counted, 30)

    def test_a_single_number_replaced_deep_within(self):
        chance = chance_of(461)
        for event in EVENTS:
            for _ in range(20):
                thing = self.replaced(chance, event)
                self.assertIs(is_event(thing), is_event_by_hand(thing), thing)

    def replaced(self, chance, thing):
        """The value with one part, however deep, replaced or left out."""
        if not isinstance(thing, tuple) or not thing or chance.random() < 0.2:
            return chance.choice((0, True, None, (), "1", -1, [0], (1, 2)))
        at = chance.randrange(len(thing))
        if chance.random() < 0.1:
            return thing[:at] + thing[at + 1:]
        return (*thing[:at], self.replaced(chance, thing[at]), *thing[at + 1:])

    def test_drawn_events(self):
        for hall, chance in live_halls(462):
            model = Model(hall)
            for _ in range(20):
                event = drawn_event(chance, model)
                self.assertIs(is_event(event), True)
                if not model.reasons(event):
                    model.apply(event)


if __name__ == "__main__":
    unittest.main()
