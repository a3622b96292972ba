"""Point 2: the exceptions."""

import unittest

from lastcoffer import errors
from common import REFUSALS


class Errors(unittest.TestCase):
    def test_the_base_is_a_value_error(self):
        self.assertEqual(errors.CofferError.__bases__, (ValueError,))

    def test_each_class_stands_directly_under_the_base(self):
        for name in REFUSALS:
            self.assertEqual(getattr(errors, name).__bases__, (errors.CofferError,))

    def test_the_classes_are_different_ones(self):
        self.assertEqual(len({getattr(errors, name) for name in REFUSALS}), 5)

    def test_str_returns_the_text(self):
        for name in REFUSALS + ("CofferError",):
            for text in ("", "a", "too long: 12", " two\nlines ", "'quoted' \\"):
                self.assertEqual(str(getattr(errors, name)(text)), text)

    def test_the_base_catches_each_and_none_catches_another(self):
        for name in REFUSALS:
            with self.assertRaises(errors.CofferError) as held:
                raise getattr(errors, name)("told")
            self.assertEqual(str(held.exception), "told")
            for other in REFUSALS:
                self.assertEqual(isinstance(held.exception, getattr(errors, other)), other == name)

    def test_the_base_is_none_of_the_others(self):
        base = errors.CofferError("told")
        for name in REFUSALS:
            self.assertNotIsInstance(base, getattr(errors, name))
            self.assertIsInstance(getattr(errors, name)(""), ValueError)
