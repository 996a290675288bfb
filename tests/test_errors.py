"""Tests of interruptruns.errors."""

import unittest

from interruptruns import errors

WITH_VALUE = (
    "InvalidName", "InvalidNumber", "InvalidBody", "InvalidProgram", "InvalidState",
    "InvalidChoice", "InvalidEvent", "InvalidLimits", "InvalidLog", "InvalidCommand",
)
FIELDS = {**{name: "value" for name in WITH_VALUE}, "ParseError": "line", "TooMany": "limit"}
BARE = ("NothingToUndo", "NothingToRedo")
NAMES = (*FIELDS, *BARE)


class Odd:
    """An object that refuses to be shown, compared, counted and hashed."""

    __hash__ = None

    def refuse(self, *told):
        raise AssertionError("the object of an error was looked at")

    __repr__ = __str__ = __eq__ = __len__ = __bool__ = refuse


OBJECTS = (
    None, True, False, 0, -1, 10 ** 29, 1.5, "", "fast", b"ab", [1, [2]], (1, [2]), {"a": [1]},
    {1, 2}, object(), Odd(), int, len, ValueError("x"),
)


class FieldTests(unittest.TestCase):
    def test_the_field_is_the_very_object_by_position(self):
        for name, field in FIELDS.items():
            for value in OBJECTS:
                error = getattr(errors, name)(value)
                self.assertIs(getattr(error, field), value)

    def test_the_field_is_the_very_object_by_name(self):
        for name, field in FIELDS.items():
            for value in OBJECTS:
                error = getattr(errors, name)(**{field: value})
                self.assertIs(getattr(error, field), value)

    def test_later_changes_of_the_object_are_seen(self):
        for name, field in FIELDS.items():
            value = [1]
            error = getattr(errors, name)(value)
            value.append(2)
            self.assertEqual(getattr(error, field), [1, 2])

    def test_the_field_is_needed(self):
        for name, field in FIELDS.items():
            with self.assertRaises(TypeError):
                getattr(errors, name)()
            with self.assertRaises(TypeError):
                getattr(errors, name)(**{"field": 1})

    def test_errors_without_fields_are_made_of_nothing(self):
        for name in BARE:
            self.assertEqual(vars(getattr(errors, name)()), {})

    def test_errors_are_raised_with_their_fields(self):
        for name, field in FIELDS.items():
            value = ["x"]
            kind = getattr(errors, name)
            with self.assertRaises(kind) as caught:
                raise kind(value)
            self.assertIs(getattr(caught.exception, field), value)


class KindTests(unittest.TestCase):
    def test_direct_bases(self):
        self.assertEqual(errors.RunError.__bases__, (ValueError,))
        for name in (*WITH_VALUE, "ParseError"):
            self.assertEqual(getattr(errors, name).__bases__, (errors.RunError,))
        self.assertEqual(errors.TooMany.__bases__, (OverflowError,))
        self.assertEqual(errors.NothingToUndo.__bases__, (LookupError,))
        self.assertEqual(errors.NothingToRedo.__bases__, (LookupError,))

    def test_no_error_is_a_kind_of_another_one(self):
        for name in NAMES:
            for other in NAMES:
                kinds = getattr(errors, name), getattr(errors, other)
                self.assertEqual(issubclass(*kinds), name == other)

    def test_run_error_is_none_of_the_others(self):
        for name in NAMES:
            self.assertFalse(issubclass(errors.RunError, getattr(errors, name)))
        for name in ("TooMany", *BARE):
            self.assertFalse(issubclass(getattr(errors, name), errors.RunError))

    def test_errors_stand_in_their_own_file(self):
        for name in ("RunError", *NAMES):
            self.assertEqual(getattr(errors, name).__module__, "interruptruns.errors")


if __name__ == "__main__":
    unittest.main()
