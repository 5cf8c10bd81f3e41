"""The interface of stages 16 to 19, from roundspapers on: where names are defined, their parameters by place and by name."""

import inspect
import unittest

from starshelves import drafts, roundclasses
from tests.helper import HALL, LEFT, STOCK, check_calls, check_methods

COVERS = (((3, 3, 3, 3),), ((4, 4, 4, 4),))
SILENT = {"hall": HALL, "silent": (0,)}
WORN = {**SILENT, "wear": 1}
PRICED = {**SILENT, "many": 2, "prices": (0, 5, 7, 6)}
POINTS = {"prime": 5, "points": (0, 1, 2, 3, 4), "kept": 2, "hidden": 1}
SPARED = {**POINTS, "silent_many": 0, "lying": 1}
WRITE = {"hall": HALL, "stock": STOCK, "slot": (1, 0), "word": (0, 1, 2, 3)}
CALLS = [
    ("roundspapers", "rounds_paper", {**SILENT, "left": LEFT}),
    ("roundschecker", "lets_rounds", {**SILENT, "thing": ("rounds", ((2,),), (0, 1, 2, 3)), "left": LEFT}),
    ("roundclasses", "Rounds", {**SILENT, "left": LEFT}),
    ("worn", "rounds_bound", WORN),
    ("worn", "is_bound_met", WORN),
    ("worn", "hidden_depth", {"hall": HALL}),
    ("worn", "points_bound", WORN),
    ("prices", "cheapest_lots", PRICED),
    ("prices", "least_price", PRICED),
    ("pointhalls", "points_hall", POINTS),
    ("pointhalls", "points_rounds", SPARED),
    ("pointhalls", "points_plan", SPARED),
    ("sums", "total_of", {"hall": HALL, "stock": STOCK, "weights": ((1,), (2,))}),
    ("sums", "weighed_letters", {"hall": HALL, "covers": COVERS, "weights": ((1,), (2,)), "mark": (1, 1, 0, 0)}),
    ("sums", "total_by", {"hall": HALL, "answers": ((0, 0), (3, 3))}),
    ("writes", "changed", WRITE),
    ("writes", "touched", {"hall": HALL, "stock": STOCK, "other": (STOCK[1], STOCK[1])}),
    ("writes", "partly", {**WRITE, "lot": (0, 1)}),
    ("writes", "least_touch", {"hall": HALL}),
    ("drafts", "Draft", {"hall": HALL, "stock": STOCK}),
]
METHODS = [
    ("roundclasses", "Rounds", ["hall", "silent", "left"], {
        "rest_now": None, "left_now": None, "least_now": None, "__getitem__": ["many"], "__call__": ["many"], "__contains__": ["thing"],
        "__len__": [], "__iter__": [], "__add__": ["shelf"], "__sub__": ["shelf"], "__eq__": ["other"],
    }),
    ("drafts", "Draft", ["hall", "stock"], {
        "hall_now": None, "stock_now": None, "__getitem__": ["slot"], "__setitem__": ["slot", "word"], "__call__": ["shelf"], "total": ["weights"],
        "back": [], "__len__": [], "__iter__": [], "__contains__": ["thing"], "__eq__": ["other"],
    }),
]


class Interface(unittest.TestCase):
    def test_functions_and_classes(self):
        check_calls(self, CALLS)

    def test_methods_and_properties(self):
        check_methods(self, METHODS)

    def test_left_is_none_by_default(self):
        for module, name, given in CALLS:
            home = __import__(f"starshelves.{module}", fromlist=[name])
            parameter = inspect.signature(getattr(home, name)).parameters.get("left")
            self.assertEqual(parameter is not None, "left" in given)
            self.assertIsNone(parameter and parameter.default)

    def test_methods_by_name(self):
        one, draft = roundclasses.Rounds(HALL, (0,)), drafts.Draft(HALL, STOCK)
        self.assertEqual([one(many=1), draft(shelf=2), draft.total(weights=((1,), (2,)))], [(0, 1, 2, 3), (3, 2), (0, 1, 2, 3)])


if __name__ == "__main__":
    unittest.main()
