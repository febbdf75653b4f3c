"""What the test cases have in common."""

import unittest

from movedchecks.errors import MoveError


class Case(unittest.TestCase):
    def fails(self, error, call, *args, **fields):
        """Calls twice what raises just this error with these fields, and returns the error."""
        for _ in range(2):
            with self.assertRaises(MoveError) as caught:
                call(*args)
            self.assertIs(type(caught.exception), error)
            self.assertEqual(vars(caught.exception), fields)
        return caught.exception
