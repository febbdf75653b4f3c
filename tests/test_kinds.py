"""Point 21: of which kind a value is."""

import unittest

from movedchecks.kinds import are_choices, are_names, is_address, is_integer, is_name
from tests.values import any_values


class KindsTest(unittest.TestCase):
    def holds(self, test, right, wrong):
        for thing in right:
            self.assertIs(test(thing), True, thing)
            self.assertIs(test(thing), True, thing)
        for thing in wrong:
            self.assertIs(test(thing), False, thing)
            self.assertIs(test(thing), False, thing)

    def test_is_integer(self):
        self.holds(is_integer, [0, 1, -1, 10 ** 40], [True, False, None, "1", [1], (1,), {1: 1}, "", []])

    def test_is_name(self):
        self.holds(
            is_name,
            ["a", "z", "abcdefgh", "zzzzzzzz", "if"],
            ["", "abcdefghi", "A", "aB", "a1", "a_", "a b", " a", "a\n", "a-", "{", "`", ["a"], ("a",), None, 1, True,
             {"a": 1}],
        )

    def test_all_signs_of_names(self):
        letters = "abcdefghijklmnopqrstuvwxyz"
        for sign in map(chr, range(128)):
            for text in (sign, "a" + sign, sign + "a", "abcdefg" + sign):
                self.assertIs(is_name(text), sign in letters, text)

    def test_is_address(self):
        self.holds(
            is_address,
            [(0,), (7,), (0, 0, 0), (3, 1, 2), (10 ** 30,), (5, 9, 1), tuple([4] * 39)],
            [(), (0, 0), (0, 1, 2, 3), (-1,), (0, -1, 0), (True,), (False,), (0, True, 0), [0], [0, 0, 0], "0", 0,
             None, (None,), ("0",), ((0,),), ([0],), {0: 0}],
        )

    def test_are_names(self):
        for most in (0, 1, 3, 9):
            for many in range(12):
                for names in (["abc"] * many, tuple(["z"] * many)):
                    self.assertIs(are_names(names, most), many <= most)
        self.holds(
            lambda thing: are_names(thing, 3),
            [[], (), ["a"], ["a", "a", "a"], ("b", "abcdefgh")],
            [["a", "B"], ["a", 1], ["a", None], ["a", ["a"]], ["abcdefghi"], [""], "a", "abc", {"a": 1}, None, True, 3,
             ("a", "b", "c", "d"), [["a"]]],
        )

    def test_are_choices(self):
        self.holds(
            are_choices,
            [[], (), ["yes"], ("no",), ["round", "out", "yes", "no", "round"], ("out",) * 300],
            [["yes", "maybe"], [""], ["Yes"], ["yes", 1], [True], [None], [["yes"]], "yes", "", None, {"yes": 1}, 0,
             ("first",), ("yes ",)],
        )

    def test_any_values(self):
        for test in (is_integer, is_name, is_address, are_choices, lambda thing: are_names(thing, 3)):
            for thing in any_values():
                self.assertIn(test(thing), [True, False])
        self.assertEqual([thing for thing in any_values() if is_integer(thing)], [0, 1, -1, 10 ** 30])
        self.assertEqual([thing for thing in any_values() if is_name(thing)], ["a"])
        self.assertEqual([thing for thing in any_values() if is_address(thing)], [(10 ** 9,)])


if __name__ == "__main__":
    unittest.main()
