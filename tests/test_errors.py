"""[11] and the list of errors: families, fields, and fields that are kept as they are."""

import unittest

from starshelves import errors

FAMILIES = {
    "PaperError": {"InvalidPaper": ["word", "at"]},
    "HallError": {
        "NotUsable": ["word", "at"], "Unreadable": ["alike"], "Lost": ["within"], "Torn": ["ways"], "TooMany": ["many"],
    },
    "LiveError": {"InvalidEvent": ["event", "reason"], "NothingToUndo": ["steps"]},
    "TextError": {"InvalidText": ["line", "field"], "InvalidRow": ["row"]},
}
ERRORS = [(family, name, fields) for family, own in FAMILIES.items() for name, fields in own.items()]


class Errors(unittest.TestCase):
    def test_the_base_is_derived_from_value_error(self):
        self.assertEqual(errors.ShelfError.__bases__, (ValueError,))

    def test_families_are_derived_directly_from_the_base(self):
        for family in FAMILIES:
            self.assertEqual(getattr(errors, family).__bases__, (errors.ShelfError,))

    def test_errors_are_derived_directly_from_their_family(self):
        for family, name, _ in ERRORS:
            self.assertEqual(getattr(errors, name).__bases__, (getattr(errors, family),))

    def test_no_other_error_is_defined(self):
        told = {"ShelfError", *FAMILIES, *[name for _, name, _ in ERRORS]}
        self.assertEqual({name for name in vars(errors) if isinstance(getattr(errors, name), type)}, told)

    def test_fields_by_place_and_by_name_are_the_very_objects(self):
        for _, name, fields in ERRORS:
            values = [[field, object()] for field in fields]
            by_place = getattr(errors, name)(*values)
            by_name = getattr(errors, name)(**dict(zip(fields, values)))
            for error in (by_place, by_name):
                self.assertEqual(list(vars(error)), fields)
                for field, value in zip(fields, values):
                    self.assertIs(getattr(error, field), value)

    def test_any_values_are_kept_also_deep_and_long_ones(self):
        deep = ()
        for _ in range(29):
            deep = (deep, [True])
        for value in (None, True, 10 ** 60 - 1, -1, "a" * 4000, deep, [1] * 5000):
            for _, name, fields in ERRORS:
                error = getattr(errors, name)(*[value for _ in fields])
                for field in fields:
                    self.assertIs(getattr(error, field), value)
                str(error)

    def test_another_number_of_fields_is_no_error_of_these(self):
        for _, name, fields in ERRORS:
            for many in (len(fields) - 1, len(fields) + 1):
                with self.assertRaises(TypeError):
                    getattr(errors, name)(*range(many))

    def test_each_can_be_caught_by_its_family_and_by_the_base(self):
        for family, name, fields in ERRORS:
            for kind in (getattr(errors, family), errors.ShelfError, ValueError):
                with self.assertRaises(kind):
                    raise getattr(errors, name)(*fields)


if __name__ == "__main__":
    unittest.main()
