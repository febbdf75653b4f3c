"""Point 31: results by their form, and what stands in them."""

import unittest

from movedchecks.results import are_bad, is_result, later, within, word_of
from tests.values import any_values

A, B = ("in", "a"), ("in", "b")
SEEN = ("seen", "disk", 0)
EMPTY = ("made", "f", ())
MADE = ("made", "g", (A, ("seen", "disk", 7), EMPTY))


def deep(result, many):
    for _ in range(many):
        result = ("made", "f", (result,))
    return result


class FormTest(unittest.TestCase):
    RIGHT = [
        A, ("in", "abcdefgh"), SEEN, ("seen", "in", 10 ** 30), EMPTY, MADE, ("made", "made", (MADE, MADE, MADE)),
        deep(A, 19), deep(MADE, 150),
    ]
    WRONG = [
        ("in",), ("in", "A"), ("in", ""), ("in", "abcdefghi"), ("in", 1), ("in", "a", 0), ["in", "a"], ("in", ["a"]),
        ("seen", "disk"), ("seen", "disk", -1), ("seen", "disk", True), ("seen", "disk", False), ("seen", "disk", "0"),
        ("seen", "disk", None), ("seen", 0, 0), ("seen", "disk", 0, 0), ("seen", "Disk", 0), ["seen", "disk", 0],
        ("made", "f"), ("made", "f", []), ("made", "f", [A]), ("made", "f", A), ("made", "f", "a"),
        ("made", "f", None), ("made", 1, ()), ("made", "", ()), ("made", "f", (A, A, A, A)), ("made", "f", ("a",)),
        ("made", "f", (A,), ()), ["made", "f", ()], ("made", "f", {}), ("mark", "disk", 0), ("", "a"), (),
        ("mark", "disk", ()), ("make", "f", ()), ("f", "f", (A,)), (0, "f", ()), (["made"], "f", ()),
    ]

    def test_is_result(self):
        for thing in self.RIGHT:
            self.assertIs(is_result(thing), True)
            self.assertIs(is_result(("made", "f", (A, thing))), True)
        for thing in self.WRONG + any_values():
            self.assertIs(is_result(thing), False, thing)
            for many in (1, 2, 15):
                self.assertIs(is_result(deep(thing, many)), False)
            self.assertIs(is_result(("made", "f", (A, thing, B))), False)

    def test_are_bad(self):
        for bad in ([], [EMPTY], [MADE, EMPTY], [EMPTY, MADE, deep(A, 18)],
                    [("made", "f", (("seen", "c", number),)) for number in range(40)]):
            self.assertIs(are_bad(bad), True)
            self.assertIs(are_bad(tuple(bad)), True)
            self.assertIs(are_bad(bad[::-1]), True)
            self.assertIs(are_bad([*bad, A]), False)
            self.assertIs(are_bad((SEEN, *bad)), False)
            self.assertIs(are_bad([*bad, None]), False)
            if bad:
                self.assertIs(are_bad([*bad, bad[0]]), False)
                self.assertIs(are_bad((bad[-1], *bad)), False)
        for thing in self.WRONG:
            if thing != ():
                self.assertIs(are_bad([EMPTY, thing]), False)
                self.assertIs(are_bad(thing), False)
        for thing in any_values():
            self.assertIs(are_bad(thing), thing in ([], ()))
            self.assertIs(are_bad([thing]), False)
        self.assertIs(are_bad({EMPTY: 1}), False)
        self.assertIs(are_bad(EMPTY), False)
        self.assertIs(are_bad([("made", "f", (("seen", "c", True),)), ("made", "f", (("seen", "c", 1),))]), False)


class PartsTest(unittest.TestCase):
    def test_word_of(self):
        self.assertEqual([word_of(result) for result in (A, SEEN, EMPTY, MADE)], [None, None, "f", "g"])

    def test_within(self):
        self.assertEqual([within(A), within(SEEN), within(EMPTY)], [[A], [SEEN], [EMPTY]])
        self.assertEqual(within(MADE), [A, EMPTY, MADE, ("seen", "disk", 7)])
        twice = ("made", "f", (MADE, ("made", "h", (A, SEEN)), A))
        every = [A, EMPTY, twice, MADE, ("made", "h", (A, SEEN)), SEEN, ("seen", "disk", 7)]
        self.assertEqual(within(twice), sorted(every))
        within(twice).clear()
        self.assertEqual(within(twice), sorted(every))
        self.assertEqual(len(within(deep(A, 100))), 101)
        self.assertEqual(within(("made", "f", (("seen", "c", 10), ("seen", "c", 9)))),
                         [("made", "f", (("seen", "c", 10), ("seen", "c", 9))), ("seen", "c", 9), ("seen", "c", 10)])

    def test_later(self):
        numbers = {"disk": 3, "log": 5}
        for result in (A, B, EMPTY):
            self.assertEqual(later(result, numbers), result)
        self.assertEqual(later(SEEN, numbers), ("seen", "disk", 3))
        self.assertEqual(later(MADE, numbers), ("made", "g", (A, ("seen", "disk", 10), EMPTY)))
        both = ("made", "disk", (("seen", "log", 1), MADE, ("seen", "net", 2)))
        self.assertEqual(later(both, numbers), ("made", "disk", (
            ("seen", "log", 6), ("made", "g", (A, ("seen", "disk", 10), EMPTY)), ("seen", "net", 2))))
        self.assertEqual(later(both, {}), both)
        self.assertEqual(numbers, {"disk": 3, "log": 5})
        self.assertEqual(later(deep(SEEN, 100), {"disk": 1}), deep(("seen", "disk", 1), 100))


if __name__ == "__main__":
    unittest.main()
