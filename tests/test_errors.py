"""Tests of caughtnames.errors: promises 7, 8 and 11, and the interface."""

import inspect
import unittest

from caughtnames import errors
from samples import values_of_every_kind

BASES = {"CaughtError": ValueError, "AbsentError": KeyError, "StateError": LookupError}

VALUE_CLASSES = [
    "InvalidName", "InvalidTerm", "InvalidBody", "InvalidProgram", "InvalidParameters",
    "InvalidTemplate", "InvalidCall", "InvalidBook", "InvalidChoice", "InvalidFillings",
    "InvalidSite", "InvalidTables", "InvalidMeaning", "InvalidText", "InvalidLine",
    "InvalidLines", "InvalidMode", "InvalidLetter", "UnlikeParameters",
]

CLASSES = [(name, "CaughtError", "value") for name in VALUE_CLASSES] + [
    ("Duplicate", "CaughtError", "name"),
    ("Reserved", "CaughtError", "name"),
    ("TooLarge", "CaughtError", "count"),
    ("InvalidRow", "CaughtError", "index"),
    ("UnknownTemplate", "AbsentError", "name"),
    ("UnknownHole", "AbsentError", "name"),
    ("UnknownBinder", "AbsentError", "number"),
    ("StillCalled", "StateError", "name"),
    ("NothingToUndo", "StateError", None),
    ("NothingToRedo", "StateError", None),
]


class Bases(unittest.TestCase):
    def test_each_base_is_directly_under_its_builtin(self):
        for name, builtin in BASES.items():
            self.assertEqual(getattr(errors, name).__bases__, (builtin,), name)

    def test_bases_are_made_of_one_string(self):
        for name in BASES:
            error = getattr(errors, name)("what went wrong")
            self.assertEqual(error.args, ("what went wrong",))
            self.assertIn("what went wrong", str(error))

    def test_bases_are_caught_as_their_builtins(self):
        for name, builtin in BASES.items():
            with self.assertRaises(builtin):
                raise getattr(errors, name)("what went wrong")


class Classes(unittest.TestCase):
    def test_each_class_is_directly_under_one_base(self):
        for name, base, field in CLASSES:
            self.assertEqual(getattr(errors, name).__bases__, (getattr(errors, base),), name)

    def test_no_class_is_missing_or_too_many(self):
        found = [name for name, value in vars(errors).items() if inspect.isclass(value)]
        self.assertEqual(sorted(found), sorted(list(BASES) + [name for name, base, field in CLASSES]))

    def test_all_classes_are_defined_in_the_file(self):
        for name in list(BASES) + [name for name, base, field in CLASSES]:
            self.assertEqual(getattr(errors, name).__module__, "caughtnames.errors")

    def test_field_is_the_very_object_by_position(self):
        for name, base, field in CLASSES:
            for value in values_of_every_kind() if field else []:
                error = getattr(errors, name)(value)
                self.assertIs(getattr(error, field), value, name)
                self.assertEqual(vars(error), {field: value})

    def test_field_is_the_very_object_by_name(self):
        for name, base, field in CLASSES:
            for value in values_of_every_kind() if field else []:
                error = getattr(errors, name)(**{field: value})
                self.assertIs(getattr(error, field), value, name)

    def test_field_is_not_copied(self):
        items = [1]
        error = errors.InvalidLines(items)
        items.append(2)
        self.assertEqual(error.value, [1, 2])

    def test_classes_without_fields_are_made_without_arguments(self):
        for name in ("NothingToUndo", "NothingToRedo"):
            self.assertEqual(vars(getattr(errors, name)()), {})

    def test_classes_with_a_field_take_exactly_one_argument(self):
        for name, base, field in CLASSES:
            if field:
                self.assertRaises(TypeError, getattr(errors, name))
                self.assertRaises(TypeError, getattr(errors, name), 1, 2)

    def test_raised_errors_are_caught_by_base_and_builtin(self):
        for name, base, field in CLASSES:
            for caught in (getattr(errors, name), getattr(errors, base), BASES[base]):
                error = getattr(errors, name)(*(["x"] if field else []))
                with self.assertRaises(caught) as held:
                    raise error
                self.assertIs(held.exception, error)

    def test_errors_of_one_base_are_not_caught_by_another(self):
        self.assertFalse(issubclass(errors.InvalidName, LookupError))
        self.assertFalse(issubclass(errors.UnknownTemplate, (ValueError, errors.StateError)))
        self.assertFalse(issubclass(errors.StillCalled, (ValueError, KeyError)))


if __name__ == "__main__":
    unittest.main()
