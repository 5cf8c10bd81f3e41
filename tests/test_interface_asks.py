"""The interface of mend_paper and stages 9 to 12: where names are defined, their parameters by place and by name."""

import unittest

from tests.helper import HALL, HIDE, KEEP, STOCK, check_calls, check_methods

HELD = ((0, ((1,), (2,))), (1, ((2,), (0,))), (2, ((3,), (2,))), (3, ((4,), (2,))))
COVERS = (((3, 3, 3, 3),), ((4, 4, 4, 4),))
MARK = (1, 1, 0, 0)
ASK = ((1, 0), MARK)
SEEN = {"hall": HALL, "mark": MARK, "lot": (0, 2)}
CALLS = [
    ("mendpapers", "mend_paper", {"hall": HALL, "lot": (1, 2, 3)}),
    ("clearing", "most_borne", {"hall": HALL, "lot": (3,)}),
    ("clearing", "clears", {"hall": HALL, "lot": (), "many": 2}),
    ("clearing", "cleared", {"hall": HALL, "held": HELD, "many": 1}),
    ("clearing", "liars_in", {"hall": HALL, "held": HELD, "many": 1}),
    ("hallclasses", "Hall", {"keep": KEEP, "hide": HIDE}),
    ("covering", "are_covers", {"hall": HALL, "stock": STOCK, "thing": COVERS}),
    ("covering", "plain_covers", {"hall": HALL, "stock": STOCK}),
    ("asking", "letters_of", {"hall": HALL, "stock": STOCK, "ask": ASK, "covers": COVERS}),
    ("asking", "answer_of", {"hall": HALL, "stock": STOCK, "shelf": 2, "letter": ((3,), (4,))}),
    ("asking", "answers_of", {"hall": HALL, "stock": STOCK, "ask": ASK, "covers": COVERS, "lot": (0, 1, 3)}),
    ("seeing", "learns", SEEN),
    ("seeing", "like_of", SEEN),
    ("seeing", "tell_of", SEEN),
    ("seeing", "learning_lots", {"hall": HALL, "mark": MARK}),
    ("seeing", "blind_lots", {"hall": HALL, "mark": MARK}),
    ("seepapers", "see_paper", SEEN),
    ("seechecker", "lets_see", {**SEEN, "thing": ("tell", (1, 0, 4, 0))}),
    ("hidden", "hidden_marks", {"hall": HALL, "family": ((0,), (1, 2))}),
    ("hidden", "hides_all", {"hall": HALL, "family": ((0,), (1, 2))}),
    ("hidden", "sight_count", {"hall": HALL, "lot": (0, 2)}),
    ("hidden", "sights_at", SEEN),
]
METHODS = [
    ("hallclasses", "Hall", ["keep", "hide"], {
        "keep_now": None, "hide_now": None, "form_now": None, "star_now": None, "places_now": None, "__call__": ["lot"],
        "__getitem__": ["shelf"], "__contains__": ["thing"], "__len__": [], "__eq__": ["other"], "losses": [], "distance": [],
        "borne": ["lot"], "mend": ["held"], "paper": ["lot"], "judged": ["lot", "thing"], "exchanged": [], "of": ["thing"],
    }),
]


class Interface(unittest.TestCase):
    def test_functions_and_classes(self):
        check_calls(self, CALLS)

    def test_methods_and_properties(self):
        check_methods(self, METHODS)


if __name__ == "__main__":
    unittest.main()
