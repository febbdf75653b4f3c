"""Points 20 and 4: the error classes, what they keep, and that wrong calls change nothing."""

import unittest

from movedchecks import errors
from movedchecks.errors import MoveError

FIELDS = {
    "Wrong": ["place"], "Full": ["limit"], "Deep": ["limit"], "NotLast": ["address"], "Twice": ["name"],
    "Unseen": ["address", "name"], "Wide": ["name"], "NoRow": ["address"], "NoGap": ["gap"], "NoName": ["name"],
    "Inside": ["gap"], "NoFork": ["at"], "NoWord": ["word"], "BadChoices": ["at"], "Unlike": [], "NoLags": [],
    "TooMany": ["most"], "Parted": ["road", "bad"], "NoPair": ["pair"], "BadDeeds": [], "BadStep": ["step"],
    "NoDeed": [], "Refused": ["deed"], "Nothing": [], "NoEntry": ["many"], "NoText": [], "NoCommand": [],
}
VALUES = [None, True, 0, -3, 10 ** 5000, "", "yes", [1, [2]], (), ("made", []), {"a": [1]}, object()]


class ErrorsTest(unittest.TestCase):
    def test_bases(self):
        self.assertEqual(MoveError.__bases__, (ValueError,))
        for name in FIELDS:
            self.assertEqual(getattr(errors, name).__bases__, (MoveError,), name)

    def test_there_are_no_others(self):
        found = [name for name, thing in vars(errors).items() if isinstance(thing, type)]
        self.assertEqual(sorted(found), sorted([*FIELDS, "MoveError"]))

    def test_fields_are_the_very_objects(self):
        for name, fields in FIELDS.items():
            for shift in range(len(VALUES)):
                values = [VALUES[(shift + 3 * k) % len(VALUES)] for k in range(len(fields))]
                error = getattr(errors, name)(*values)
                self.assertEqual(sorted(vars(error)), sorted(fields))
                for field, value in zip(fields, values):
                    self.assertIs(getattr(error, field), value)

    def test_fields_are_not_copied(self):
        place = [1]
        error = errors.Unseen(place, place)
        place.append(2)
        self.assertEqual([error.address, error.name], [[1, 2], [1, 2]])

    def test_signatures(self):
        for name, fields in FIELDS.items():
            made = getattr(errors, name)
            error = made(**{field: field for field in fields})
            self.assertEqual(vars(error), {field: field for field in fields})
            if fields:
                self.assertRaises(TypeError, made)
                self.assertRaises(TypeError, made, *fields, 1)

    def test_they_are_caught_as_value_errors(self):
        for name, fields in FIELDS.items():
            with self.assertRaises(ValueError):
                raise getattr(errors, name)(*fields)


if __name__ == "__main__":
    unittest.main()
