"""The document's examples: halls changed and compared, told back, live halls, logs as lines, and a desk."""

import unittest

from tests.helper import HEAD, run_examples

STAGE_20 = r"""
>>> from starshelves.hallchanges import renamed, scaled, shortened, with_shelf, without_shelf
>>> [with_shelf(HALL, (2, 4), (1,))[0], without_shelf(HALL, 0)[0], shortened(HALL, 0), renamed(HALL, (3, 2, 1, 0)) == HALL]
[(5, 5, ((1, 0, 4, 3, 2), (0, 1, 2, 3, 4))), (5, 3, ((1, 0, 4), (0, 1, 2))), ((5, 3, ((1, 2, 3),)), (5, 3, ((1, 1, 1),))), True]
>>> from starshelves.comparing import never_worse, worse_at
>>> from starshelves.mendbooks import learning_book, reading_book
>>> OPEN = (KEEP, (5, 4, ()))
>>> [learning_book(HALL, (1, 1, 0, 0)), len(reading_book(HALL, ((1, 1, 0, 0),))[2])]
[(5, 5, ((1, 1, 0, 0, 1), (0, 0, 1, 1, 4))), 4]
>>> [worse_at(HALL, OPEN), worse_at(OPEN, HALL), never_worse(HALL, scaled(HALL, (1, 2, 3, 4), (4, 1, 1, 2)))]
[(None, None, (0,)), (None, (0,), None), True]
"""

STAGE_21 = r"""
>>> from starshelves.tellback import asked_slots, mark_by, weights_by
>>> SEEN = (((3,), (0,)), ((3,), (4,)))
>>> [asked_slots(HALL, (1, 1, 0, 0), (0, 2), SEEN), asked_slots(HALL, (1, 1, 0, 0), (0,), SEEN[:1]), weights_by(HALL, (1, 1, 0, 0), (0, 2), SEEN), mark_by(HALL, (0, 2), SEEN, (1, 0)), mark_by(HALL, (0, 2), SEEN, (0, 0))]
[((1, 0),), ((0, 0), (1, 0)), ((0,), (1,)), (0, 0, 4, 0), None]
"""

STAGE_22 = r"""
>>> from starshelves.live import LiveHall
>>> live, MARKS, SENT = LiveHall(HALL), ((1, 1, 0, 0),), ((((3, 3, 3, 3),), ((4, 4, 4, 4),)),)
>>> [live.do_all(('put', STOCK[0]), ('put', STOCK[1])), live.ask((1, 0), MARKS, SENT), live.answer(0), live.answer(1), live.answer(2)]
[2, 'asking', 'asking', 'asking', 'asking']
>>> [live.answers(), live.told(), live.needed(), live.learned((0, 2)), live.answer(3), live.reading(), live.close()]
[(((0, 3), (1, 1), (2, 2)),), 1, 1, True, 'read', (2, 2, 2, 2), 'idle']
>>> [live.spoil(1, (1, 0), 0), live.lose(0), live.mend(0), live.held_now[0], live.spoilt_now, live.undo(), live.tally()]
['idle', 'idle', 'idle', ((1,), (3,)), (0, 1), ('mend', 0), (11, 11)]
"""

STAGE_23 = r"""
>>> from starshelves.eventreadings import read_event, read_log
>>> from starshelves.eventtexts import event_line, log_lines
>>> [event_line(('ask', (1, 0), MARKS, SENT)), read_event('put 1 2 / 0 0'), log_lines((('hall', HALL), ('lose', 2)))[5:]]
['ask 1 0 / 1 1 0 0 : 3 3 3 3 : 4 4 4 4', ('put', ((1, 2), (0, 0))), ['row 1 1 1 1', 'lose 2']]
"""

STAGE_24 = r"""
>>> from starshelves.desk import Desk
>>> desk = Desk()
>>> [desk.say('\n'.join(log_lines((('hall', HALL),)))), desk.say('put 1 2 3 4 / 2 2 2 2'), desk.say('lose 3'), desk.say('held'), desk.say('needed')]
['ok', 'idle', 'idle', '1 2 / 2 2 / 3 2 / -', '2']
"""


class Examples(unittest.TestCase):
    """Each line below an example is exactly what it gives, or the error it raises."""

    def test_stage_20(self):
        run_examples(self, HEAD + STAGE_20)

    def test_stage_21(self):
        run_examples(self, HEAD + STAGE_21)

    def test_stage_22(self):
        run_examples(self, HEAD + STAGE_22)

    def test_stage_23(self):
        run_examples(self, HEAD + STAGE_22 + STAGE_23)

    def test_stage_24(self):
        run_examples(self, HEAD + STAGE_22 + STAGE_23 + STAGE_24)


if __name__ == "__main__":
    unittest.main()
