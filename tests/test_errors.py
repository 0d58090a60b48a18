"""The errors: point 2 and the section workerworlds/errors.py of the interface."""

import unittest

from helping import no_strings
from workerworlds import errors

FIELDS = {
    "BadBox": ("contents",),
    "BadName": ("name",),
    "BadWorld": ("at",),
    "BadRow": ("row",),
    "BadProgram": ("part", "at"),
    "BadText": ("at",),
    "TooMany": ("what",),
    "BadSetting": ("what",),
    "BadItem": ("at",),
    "BadCut": ("at",),
    "BadDealing": ("at",),
    "NoName": ("name",),
    "NoWorker": ("number",),
    "TaskFailed": ("at", "told", "cause"),
    "CannotCross": ("at", "what"),
    "Closed": (),
}
UNDER_LOOKUP = ("NoName", "NoWorker")
UNDER_RUNTIME = ("TaskFailed", "CannotCross", "Closed")


def base_of(name):
    """The class that stands directly above the error of this name."""
    if name in UNDER_LOOKUP:
        return LookupError
    if name in UNDER_RUNTIME:
        return RuntimeError
    return errors.WorkerworldsError


class Classes(unittest.TestCase):

    def test_the_error_above_is_a_value_error(self):
        self.assertEqual(errors.WorkerworldsError.__bases__, (ValueError,))
        self.assertEqual(errors.WorkerworldsError.__module__, "workerworlds.errors")

    def test_each_error_stands_directly_under_its_class(self):
        for name in FIELDS:
            with self.subTest(name):
                self.assertEqual(getattr(errors, name).__bases__, (base_of(name),))

    def test_each_error_is_defined_under_its_name(self):
        for name in FIELDS:
            with self.subTest(name):
                self.assertEqual(getattr(errors, name).__name__, name)
                self.assertEqual(getattr(errors, name).__module__, "workerworlds.errors")

    def test_an_error_is_of_no_other_class(self):
        for name in FIELDS:
            for other in FIELDS:
                if other != name:
                    with self.subTest(name=name, other=other):
                        self.assertFalse(issubclass(getattr(errors, name), getattr(errors, other)))

    def test_only_errors_of_values_are_workerworlds_errors(self):
        for name in FIELDS:
            with self.subTest(name):
                is_below = issubclass(getattr(errors, name), errors.WorkerworldsError)
                self.assertIs(is_below, name not in UNDER_LOOKUP + UNDER_RUNTIME)

    def test_python_errors_that_no_error_is_of(self):
        for name in FIELDS:
            for wrong in (KeyError, IndexError, TypeError, RecursionError, NotImplementedError):
                self.assertFalse(issubclass(getattr(errors, name), wrong))
        for name in UNDER_LOOKUP + UNDER_RUNTIME:
            self.assertFalse(issubclass(getattr(errors, name), ValueError))


class Fields(unittest.TestCase):

    def assert_fields(self, error, fields, values):
        for field, value in zip(fields, values):
            self.assertIs(getattr(error, field), value)

    def test_fields_by_position_have_the_order_of_the_interface(self):
        values = ["first", 2, ("third",)]
        for name, fields in FIELDS.items():
            with self.subTest(name):
                given = values[:len(fields)]
                self.assert_fields(getattr(errors, name)(*given), fields, given)

    def test_fields_by_name(self):
        values = ["first", 2, ("third",)]
        for name, fields in FIELDS.items():
            with self.subTest(name):
                given = dict(zip(reversed(fields), values))
                error = getattr(errors, name)(**given)
                self.assert_fields(error, list(given), list(given.values()))

    def test_fields_are_any_values_and_kept_as_they_are(self):
        for name, fields in FIELDS.items():
            for value in no_strings() + ["", "a", "a" * 3000]:
                given = [value] * len(fields)
                with self.subTest(name=name, value=value):
                    self.assert_fields(getattr(errors, name)(*given), fields, given)

    def test_two_errors_have_fields_of_their_own(self):
        one, other = errors.BadWorld(1), errors.BadWorld(2)
        self.assertEqual((one.at, other.at), (1, 2))

    def test_a_raised_error_is_caught_by_the_class_above(self):
        for name, fields in FIELDS.items():
            with self.subTest(name):
                error = getattr(errors, name)(*list(range(len(fields))))
                with self.assertRaises(base_of(name)) as caught:
                    raise error
                self.assertIs(caught.exception, error)
                self.assert_fields(error, fields, range(len(fields)))


if __name__ == "__main__":
    unittest.main()
