"""Point [3]: the errors."""

import unittest

from heapcode import errors
from tests.asking import VALUES

SIGNATURES = {
    "BadKind": ("kind",),
    "BadWidth": ("width",),
    "BadLine": ("line",),
    "Refused": ("line",),
    "BadItem": ("index",),
    "BadCase": ("what",),
    "BadPromise": ("promise",),
    "NoLine": ("line",),
    "BadSize": ("n",),
    "OtherKinds": (),
    "OtherWidths": (),
    "BadName": ("name",),
    "NoDeed": ("name",),
    "NothingToUndo": (),
    "TooMany": ("what", "many", "most"),
}


class TestErrors(unittest.TestCase):

    def test_there_are_fifteen_and_all_stand_directly_below_the_first(self):
        below = {error.__name__ for error in errors.HeapError.__subclasses__()}
        self.assertEqual(below, set(SIGNATURES))
        self.assertEqual(len(below), 15)
        self.assertEqual(errors.HeapError.__bases__, (ValueError,))
        for name in SIGNATURES:
            with self.subTest(name):
                self.assertEqual(getattr(errors, name).__bases__, (errors.HeapError,))
                self.assertEqual(getattr(errors, name).__module__, "heapcode.errors")

    def test_each_is_an_error_of_its_own(self):
        for name, names in SIGNATURES.items():
            error = getattr(errors, name)(*names)
            kinds = [other for other in SIGNATURES if isinstance(error, getattr(errors, other))]
            with self.subTest(name):
                self.assertEqual(kinds, [name])
                self.assertIsInstance(error, errors.HeapError)
                self.assertIsInstance(error, ValueError)

    def test_attributes_hold_the_very_values_by_position_and_by_name(self):
        for name, names in SIGNATURES.items():
            for shift in range(len(VALUES)):
                values = [VALUES[(shift + step) % len(VALUES)] for step in range(len(names))]
                by_position = getattr(errors, name)(*values)
                by_name = getattr(errors, name)(**dict(zip(names, values)))
                for attribute, value in zip(names, values):
                    with self.subTest(name=name, attribute=attribute, kind=value.__class__):
                        self.assertIs(getattr(by_position, attribute), value)
                        self.assertIs(getattr(by_name, attribute), value)

    def test_attributes_are_those_of_the_signature_alone(self):
        for name, names in SIGNATURES.items():
            with self.subTest(name):
                self.assertEqual(set(vars(getattr(errors, name)(*names))), set(names))

    def test_other_numbers_of_values_are_not_taken(self):
        for name, names in SIGNATURES.items():
            with self.subTest(name):
                self.assertRaises(TypeError, getattr(errors, name), *names, 1)
                if names:
                    self.assertRaises(TypeError, getattr(errors, name))

    def test_each_can_be_shown_whatever_it_is_made_from(self):
        for name, names in SIGNATURES.items():
            for value in VALUES:
                with self.subTest(name=name, kind=value.__class__):
                    error = getattr(errors, name)(*[value for _ in names])
                    self.assertTrue(str(error))
                    self.assertTrue(repr(error))

    def test_each_can_be_raised_and_caught_as_the_first(self):
        for name, names in SIGNATURES.items():
            with self.subTest(name), self.assertRaises(errors.HeapError):
                raise getattr(errors, name)(*names)


if __name__ == "__main__":
    unittest.main()
