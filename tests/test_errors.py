"""[9]: the errors, their families and their attributes."""

import unittest

from centbook import errors
from tests.samples import ODD_VALUES

ATTRIBUTES = {
    "InvalidPaper": ("PaperError", ("word", "at")),
    "UnknownLine": ("BookError", ("name",)),
    "InvalidStep": ("BookError", ("step", "reason")),
    "InvalidAmount": ("BookError", ("value",)),
    "NothingToUndo": ("BookError", ("steps",)),
    "InvalidText": ("TextError", ("row", "field")),
    "InvalidCommand": ("TextError", ("text",)),
}


class Unlookable:
    """An object that must only be kept."""

    def __eq__(self, other):
        raise AssertionError("compared")

    def __bool__(self):
        raise AssertionError("tested")

    def __repr__(self):
        raise AssertionError("shown")

    def __str__(self):
        raise AssertionError("written")


class ErrorsTest(unittest.TestCase):
    def test_families(self):
        self.assertEqual(errors.CentError.__bases__, (ValueError,))
        for family in ("PaperError", "BookError", "TextError"):
            self.assertEqual(getattr(errors, family).__bases__, (errors.CentError,))

    def test_each_error_derives_directly_from_its_family(self):
        for name, (family, _) in ATTRIBUTES.items():
            self.assertEqual(getattr(errors, name).__bases__, (getattr(errors, family),), name)

    def test_attributes_by_position(self):
        for name, (_, attributes) in ATTRIBUTES.items():
            given = [object() for _ in attributes]
            error = getattr(errors, name)(*given)
            for attribute, value in zip(attributes, given):
                self.assertIs(getattr(error, attribute), value, name)

    def test_attributes_by_name(self):
        for name, (_, attributes) in ATTRIBUTES.items():
            given = {attribute: object() for attribute in attributes}
            error = getattr(errors, name)(**given)
            for attribute, value in given.items():
                self.assertIs(getattr(error, attribute), value, name)

    def test_exactly_these_attributes(self):
        for name, (_, attributes) in ATTRIBUTES.items():
            made = getattr(errors, name)
            self.assertRaises(TypeError, made, *[1] * (len(attributes) - 1))
            self.assertRaises(TypeError, made, *[1] * (len(attributes) + 1))
            self.assertEqual(sorted(vars(made(*[1] * len(attributes)))), sorted(attributes))

    def test_values_of_any_kind_are_kept_unlooked_at(self):
        for name, (_, attributes) in ATTRIBUTES.items():
            for value in (*ODD_VALUES, Unlookable(), [1], {"a": 1}):
                error = getattr(errors, name)(*[value] * len(attributes))
                for attribute in attributes:
                    self.assertIs(getattr(error, attribute), value)

    def test_a_kept_list_is_the_given_one(self):
        kept = [1]
        self.assertIs(errors.InvalidStep(kept, "shape").step, kept)

    def test_raised_and_caught_as_family(self):
        with self.assertRaises(errors.TextError):
            raise errors.InvalidText(1, 2)
        with self.assertRaises(errors.CentError):
            raise errors.InvalidPaper("shape", -1)
        with self.assertRaises(ValueError):
            raise errors.UnknownLine(None)


if __name__ == "__main__":
    unittest.main()
