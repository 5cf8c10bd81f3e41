"""The interface of stages 12 to 16: where names are defined, their parameters by place and by name."""

import inspect
import unittest

from starshelves.answered import explaining
from tests.helper import HALL, HIDE, STOCK, check_calls, check_methods

COVERS = (((3, 3, 3, 3),), ((4, 4, 4, 4),))
MARK = (1, 1, 0, 0)
ASK = ((1, 0), MARK)
ONE = {"hall": HALL, "plan": (MARK,), "silences": ((),)}
LEFT = (5, 4, ((1, 0, 4, 3),))
FOUR = (((0, 3), (1, 1), (2, 2), (3, 0)),)
HEARD = {"hall": HALL, "plan": (MARK,), "answers": FOUR}
UNLIKE = {"hall": HALL, "silences": ((0,), (1,)), "left": LEFT}
CALLS = [
    ("plansseen", "plan_learns", {"hall": HALL, "plan": (MARK,), "lot": (0, 1)}),
    ("plansseen", "twice_seen", {"hall": HALL, "one": MARK, "other": (2, 2, 0, 0), "lot": (0,)}),
    ("asks", "Ask", {"hall": HALL, "stock": STOCK, "ask": ASK, "covers": COVERS}),
    ("asks", "Plain", {"hall": HALL, "stock": STOCK, "ask": ASK}),
    ("reading", "reads", ONE),
    ("reading", "blind_book", ONE),
    ("reading", "told_rank", ONE),
    ("reading", "told_sums", ONE),
    ("reading", "read_numbers", ONE),
    ("readchecker", "lets_read", {**ONE, "thing": ("read", (((1, 0, 2, 2),), ((0, 1, 3, 1),)))}),
    ("someplans", "some_plan_reads", {"hall": HALL, "book": HIDE, "silent": ()}),
    ("answered", "word_of", HEARD),
    ("answered", "told_sum", {**HEARD, "weights": (1, 3)}),
    ("answered", "liars_by", {**HEARD, "word": (2, 2, 2, 2)}),
    ("answered", "sure_word", {**HEARD, "most": 0}),
    ("lying", "bears", {**ONE, "many": 1}),
    ("lying", "most_liars", ONE),
    ("lying", "sure_sums", {**ONE, "many": 1}),
    ("rounds", "rest_book", {"hall": HALL, "silent": (0,)}),
    ("rounds", "cut_ratio", {"hall": HALL, "silent": (0,), "lot": (1, 2, 3), "left": LEFT}),
    ("rounds", "most_told", {"hall": HALL, "silent": (0,), "many": 2, "left": LEFT}),
    ("rounds", "least_rounds", {"hall": HALL, "silent": (0,), "left": LEFT}),
    ("rounds", "best_lots", {"hall": HALL, "silent": (0,), "left": LEFT}),
    ("rounds", "rounds_cut", {"hall": HALL, "silent": (0,), "many": 0, "left": LEFT}),
    ("rounds", "unit_marks", {"size": 4, "lots": ((1,), (0, 3))}),
    ("unlike", "most_in", UNLIKE),
    ("unlike", "lots_in", UNLIKE),
    ("unlike", "cut_in", UNLIKE),
]
METHODS = [
    ("asks", "Ask", ["hall", "stock", "ask", "covers"], {
        "hall_now": None, "stock_now": None, "ask_now": None, "covers_now": None, "__getitem__": ["shelf"], "__call__": ["shelf"],
        "__contains__": ["thing"], "__len__": [], "__iter__": [], "__str__": [], "__eq__": ["other"], "answers": ["lot"],
        "learned_by": ["lot"], "seen_by": ["lot"],
    }),
    ("plans", "Plan", ["hall", "*marks"], {
        "hall_now": None, "marks_now": None, "__getitem__": ["index"], "__contains__": ["thing"], "__len__": [], "__iter__": [],
        "__eq__": ["other"], "__add__": ["other"], "__call__": ["silent"], "told": ["silent"], "numbers": ["silent"],
        "borne": ["silent"],
    }),
    ("plans", "Units", ["hall", "*lots"], {"lots_now": None}),
]


class Interface(unittest.TestCase):
    def test_functions_and_classes(self):
        check_calls(self, CALLS)

    def test_methods_and_properties(self):
        check_methods(self, METHODS)

    def test_explaining_by_place_and_by_name(self):
        given = {**HEARD, "most": 1}
        self.assertEqual(list(inspect.signature(explaining).parameters), list(given))
        told = [*explaining(*given.values())]
        for found in (explaining(**given), explaining(**dict(reversed(given.items())))):
            self.assertTrue(inspect.isgenerator(found))
            self.assertEqual([*found], told)

    def test_left_is_none_by_default(self):
        for module, name, given in CALLS:
            home = __import__(f"starshelves.{module}", fromlist=[name])
            parameter = inspect.signature(getattr(home, name)).parameters.get("left")
            self.assertEqual(parameter is not None, "left" in given)
            self.assertIsNone(parameter and parameter.default)


if __name__ == "__main__":
    unittest.main()
