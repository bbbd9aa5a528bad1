"""Promise [4]: the errors."""

import unittest

from makefirst import errors
from support import any_values

BATCH = {
    "BadBook": "at", "BadStore": "at", "BadState": "at", "BadText": "at",
    "Refused": "at", "TooGreat": "most", "Knotted": "kinds",
}
KEYS = {"NoKind": "kind", "NoCell": "cell", "NoCheck": "check"}


class Errors(unittest.TestCase):

    def test_base(self):
        self.assertEqual(errors.BatchError.__bases__, (ValueError,))

    def test_derived_directly(self):
        for name in BATCH:
            self.assertEqual(getattr(errors, name).__bases__, (errors.BatchError,), name)
        for name in KEYS:
            self.assertEqual(getattr(errors, name).__bases__, (KeyError,), name)

    def test_none_is_derived_from_another_one(self):
        for one in [*BATCH, *KEYS]:
            for other in [*BATCH, *KEYS]:
                if one != other:
                    self.assertFalse(issubclass(getattr(errors, one), getattr(errors, other)), (one, other))
        for name in KEYS:
            self.assertFalse(issubclass(getattr(errors, name), ValueError), name)
        for name in BATCH:
            self.assertFalse(issubclass(getattr(errors, name), LookupError), name)

    def test_argument_is_kept_itself(self):
        for name, attribute in {**BATCH, **KEYS}.items():
            make = getattr(errors, name)
            for value in [*any_values(), {}, object(), 1.5]:
                self.assertIs(getattr(make(value), attribute), value)
                self.assertIs(getattr(make(**{attribute: value}), attribute), value)

    def test_later_changes_of_the_argument_are_seen(self):
        value = [1]
        error = errors.Refused(value)
        value.append(2)
        self.assertEqual(error.at, [1, 2])

    def test_raised_and_caught_by_base(self):
        for name in BATCH:
            with self.assertRaises(errors.BatchError):
                raise getattr(errors, name)(3)
        for name in KEYS:
            with self.assertRaises(KeyError):
                raise getattr(errors, name)(3)

    def test_one_argument(self):
        for name in [*BATCH, *KEYS]:
            with self.assertRaises(TypeError):
                getattr(errors, name)()
            with self.assertRaises(TypeError):
                getattr(errors, name)(1, 2)


if __name__ == "__main__":
    unittest.main()
