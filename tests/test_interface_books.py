"""The interface of stages 1 to 4: where names are defined, their parameters by place and by name."""

import unittest

from tests.helper import HIDE, KEEP, PAIRS, check_calls, check_methods

CALLS = [
    ("kinds", "is_integer", {"thing": 1}),
    ("kinds", "is_number", {"thing": 1}),
    ("kinds", "is_prime", {"thing": 5}),
    ("kinds", "is_digit", {"prime": 5, "thing": 4}),
    ("kinds", "is_word", {"prime": 5, "size": 2, "thing": (4, 0)}),
    ("kinds", "is_lot", {"size": 3, "thing": (0, 2)}),
    ("kinds", "is_book", {"thing": KEEP}),
    ("words", "added", {"prime": 5, "one": (1, 2), "other": (4, 4)}),
    ("words", "lessened", {"prime": 5, "one": (1, 2), "other": (4, 4)}),
    ("words", "product_of", {"prime": 5, "one": (1, 2), "other": (4, 4)}),
    ("words", "times", {"prime": 5, "digit": 3, "one": (1, 2)}),
    ("words", "sum_of_products", {"prime": 5, "one": (1, 2), "other": (4, 4)}),
    ("words", "lot_of", {"one": (0, 3, 0)}),
    ("words", "weight_of", {"one": (0, 3, 0)}),
    ("words", "cut", {"one": (4, 3, 2), "lot": (0, 2)}),
    ("bookchecker", "lets_book", {"thing": KEEP}),
    ("books", "span_of", {"prime": 5, "size": 2, "words": ((0, 2), (3, 1))}),
    ("books", "checks_of", {"book": KEEP}),
    ("books", "star_of", {"one": KEEP, "other": PAIRS}),
    ("books", "sum_of", {"one": KEEP, "other": PAIRS}),
    ("books", "meet_of", {"one": KEEP, "other": PAIRS}),
    ("books", "rank_of", {"book": KEEP}),
    ("books", "has_word", {"book": KEEP, "one": (1, 1, 1, 1)}),
    ("books", "is_part", {"one": HIDE, "other": KEEP}),
    ("books", "words_of", {"book": HIDE}),
    ("books", "within_of", {"book": KEEP, "lot": (0, 1, 2)}),
    ("books", "cut_of", {"book": KEEP, "lot": (0, 2)}),
    ("booktexts", "book_text", {"book": KEEP}),
    ("booktexts", "word_text", {"one": (4, 0)}),
    ("booktexts", "lot_text", {"lot": (0, 3)}),
    ("bookreadings", "book_read", {"text": "book 5 2\nrow 1 4"}),
    ("bookreadings", "word_read", {"prime": 5, "size": 2, "text": "4 0"}),
    ("bookreadings", "lot_read", {"size": 4, "text": "0 3"}),
    ("bookclasses", "Book", {"prime": 5, "size": 2}),
    ("bookclasses", "Points", {"prime": 5, "points": (1, 2), "rank": 1}),
    ("freelots", "is_free", {"book": KEEP, "lot": (0, 3)}),
    ("freelots", "rank_on", {"book": PAIRS, "lot": (0, 1)}),
    ("freelots", "closure_of", {"book": PAIRS, "lot": (0,)}),
    ("freelots", "bases_of", {"book": PAIRS}),
    ("freelots", "ring_in", {"book": PAIRS, "lot": (1, 2, 3)}),
    ("freelots", "rings_of", {"book": PAIRS}),
]
METHODS = [
    ("bookclasses", "Book", ["prime", "size", "*rows"], {
        "form_now": None, "prime_now": None, "size_now": None, "rows_now": None, "__getitem__": ["k"],
        "__call__": ["lot"], "__contains__": ["thing"], "__len__": [], "__iter__": [], "__str__": [],
        "__eq__": ["other"], "__invert__": [], "__add__": ["other"], "__and__": ["other"], "__mul__": ["other"],
        "lies_in": ["other"], "of": ["book"], "span": ["prime", "size", "*words"], "read": ["text"],
    }),
    ("bookclasses", "Points", ["prime", "points", "rank"], {"points_now": None, "values_of": ["numbers"]}),
]


class Interface(unittest.TestCase):
    def test_functions_and_classes(self):
        check_calls(self, CALLS)

    def test_methods_and_properties(self):
        check_methods(self, METHODS)


if __name__ == "__main__":
    unittest.main()
