"""The interface of stages 5 to 8: where names are defined, their parameters by place and by name."""

import unittest

from tests.helper import HALL, HIDE, KEEP, PAIRS, STOCK, TURNED, check_calls, check_methods

HELD = (((1,), (2,)), ((2,), (2,)), ((3,), (2,)), ((4,), (2,)))
CALLS = [
    ("commonlots", "common_lot", {"one": PAIRS, "other": TURNED}),
    ("commonlots", "common_cut", {"one": KEEP, "other": HIDE}),
    ("commonlots", "cheapest_common", {"one": PAIRS, "other": TURNED, "prices": (5, 1, 1, 5), "size": 2}),
    ("commonchecker", "lets_common", {"one": PAIRS, "other": TURNED, "thing": ("common", (0, 3), ())}),
    ("joinedlots", "joint_lots", {"one": KEEP, "others": (HIDE, PAIRS)}),
    ("joinedlots", "joint_size", {"one": KEEP, "others": (HIDE, PAIRS)}),
    ("joinedlots", "joint_cut", {"one": KEEP, "others": (HIDE, PAIRS)}),
    ("jointchecker", "lets_joint", {"one": KEEP, "others": (HIDE, HIDE), "thing": ("joint", ((3,), (1,)), ())}),
    ("frees", "Free", {"book": PAIRS}),
    ("hallchecker", "lets_hall", {"thing": HALL}),
    ("stockkinds", "is_hall", {"thing": HALL}),
    ("stockkinds", "is_file", {"hall": HALL, "thing": STOCK[0]}),
    ("stockkinds", "is_stock", {"hall": HALL, "thing": STOCK}),
    ("stockkinds", "is_slot", {"stock": STOCK, "thing": (1, 0)}),
    ("stocks", "shelf_of", {"hall": HALL, "stock": STOCK, "shelf": 3}),
    ("stocks", "shelves_of", {"hall": HALL, "stock": STOCK}),
    ("stocks", "slots_of", {"hall": HALL, "stock": STOCK}),
    ("stocks", "stock_from", {"hall": HALL, "held": HELD}),
    ("mending", "can_mend", {"hall": HALL, "lot": (0, 1)}),
    ("mending", "menders_of", {"hall": HALL, "shelf": 0}),
    ("mending", "least_losses", {"hall": HALL}),
    ("mending", "distance_of", {"hall": HALL}),
    ("mending", "mended", {"hall": HALL, "held": ((0, HELD[0]), (3, HELD[3]))}),
    ("mending", "cheapest_menders", {"hall": HALL, "shelf": 0, "prices": (0, 1, 7, 2)}),
    ("mendchecker", "lets_mend", {"hall": HALL, "lot": (1,), "thing": ("mends", ((0, 1, 3, 1),))}),
]
METHODS = [
    ("frees", "Free", ["book"], {
        "book_now": None, "__call__": ["lot"], "__contains__": ["thing"], "__len__": [], "__iter__": [],
        "__eq__": ["other"], "__and__": ["other"], "__or__": ["other"], "dual": [], "without": ["lot"],
        "beside": ["lot"], "of": ["prime", "size", "words"],
    }),
]


class Interface(unittest.TestCase):
    def test_functions_and_classes(self):
        check_calls(self, CALLS)

    def test_methods_and_properties(self):
        check_methods(self, METHODS)


if __name__ == "__main__":
    unittest.main()
