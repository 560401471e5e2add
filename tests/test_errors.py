"""Section 19: the errors, their arguments and their bases."""

import inspect
import unittest

from samples import any_values
from tableheld import errors

ARGUMENTS = {
    "BadColumns": ("value",),
    "BadRows": ("value",),
    "BadRow": ("value",),
    "BadCost": ("value",),
    "BadAlignment": ("value",),
    "BadCondition": ("value",),
    "BadKind": ("value",),
    "BadTable": ("value",),
    "BadCosts": ("value",),
    "BadSide": ("value",),
    "BadText": ("line",),
    "NoPlace": ("value",),
    "NoVersion": ("value",),
    "NoStep": ("value",),
    "NoSaying": ("value",),
    "NoAlignment": (),
    "NotBest": (),
    "TooMany": ("limit",),
    "Contradiction": ("numbers",),
    "Unsure": ("side", "spot"),
    "ColumnClash": ("word",),
    "Doubt": ("spots",),
}


class Bases(unittest.TestCase):
    def test_held_error_is_directly_below_value_error(self):
        self.assertEqual(errors.HeldError.__bases__, (ValueError,))

    def test_each_error_is_directly_below_held_error(self):
        for name in ARGUMENTS:
            with self.subTest(name):
                self.assertEqual(getattr(errors, name).__bases__, (errors.HeldError,))

    def test_each_error_is_defined_in_its_file(self):
        for name in ("HeldError", *ARGUMENTS):
            with self.subTest(name):
                self.assertEqual(getattr(errors, name).__module__, "tableheld.errors")

    def test_there_are_no_other_errors(self):
        found = {name for name, _ in inspect.getmembers(errors, inspect.isclass)}
        self.assertEqual(found, {"HeldError", *ARGUMENTS})


class Arguments(unittest.TestCase):
    def check_kept(self, error, names, values):
        self.assertEqual(tuple(vars(error)), names)
        for name, value in zip(names, values):
            self.assertIs(getattr(error, name), value)

    def samples(self, names):
        """Return tuples of as many values as there are names, different ones side by side."""
        values = any_values()
        return list(zip(*[values[at:] + values[:at] for at in range(len(names))])) or [()]

    def test_any_values_are_kept_by_position(self):
        for name, names in ARGUMENTS.items():
            for at, values in enumerate(self.samples(names)):
                with self.subTest(name, at=at):
                    self.check_kept(getattr(errors, name)(*values), names, values)

    def test_any_values_are_kept_by_name(self):
        for name, names in ARGUMENTS.items():
            for at, values in enumerate(self.samples(names)):
                with self.subTest(name, at=at):
                    self.check_kept(getattr(errors, name)(**dict(zip(names, values))), names, values)

    def test_names_in_another_sequence(self):
        error = errors.Unsure(spot=2, side="ours")
        self.assertEqual((error.side, error.spot), ("ours", 2))

    def test_they_are_raised_and_caught_as_held_error_and_value_error(self):
        for name, names in ARGUMENTS.items():
            values = tuple([[k] for k in range(len(names))])
            for base in (errors.HeldError, ValueError):
                with self.subTest(name, base=base.__name__):
                    with self.assertRaises(base) as caught:
                        raise getattr(errors, name)(*values)
                    self.check_kept(caught.exception, names, values)

    def test_another_error_does_not_catch_them(self):
        with self.assertRaises(errors.BadRow):
            try:
                raise errors.BadRow(1)
            except errors.BadRows:
                self.fail("BadRow is no BadRows")


if __name__ == "__main__":
    unittest.main()
