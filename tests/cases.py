"""What the test cases have in common."""

import unittest

from movedchecks.errors import MoveError
from movedchecks.programs import Program

A = ("in", "a")
LEAVE, IF = ("leave",), ("if", [], [], [])
LOG, OUT = ("write", "log", ["a"]), ("write", "out", ["a"])
CHECK_X, CHECK_Y = ("check", "x"), ("check", "y")


def made(word, *parts):
    return ("made", word, parts)


X, Y = made("f", A), made("g", A)


def program(*rows):
    """A program with the input a, in which x has the result X and y the result Y ahead of these rows."""
    return Program(["a"], [("make", "x", "f", ["a"]), ("make", "y", "g", ["a"]), *rows])


class Case(unittest.TestCase):
    def fails(self, error, call, *args, **fields):
        """Calls twice what raises just this error with these fields, and returns the error."""
        for _ in range(2):
            with self.assertRaises(MoveError) as caught:
                call(*args)
            self.assertIs(type(caught.exception), error)
            self.assertEqual(vars(caught.exception), fields)
        return caught.exception


def full_of_things():
    """Two programs with just 300 things that are followed, and one that has one more with the first."""
    rows = [
        ("read", "r", "c"), ("read", "s", "c"), ("if", [], [], [("u", "r", "a")]), ("if", [], [], [("v", "s", "a")]),
        ("make", "x", "f", ["u", "v"]), ("make", "y", "g", ["u", "v"]), ("make", "z", "h", ["u", "v"]),
        ("make", "w", "f", ["x"]), ("check", "x"), ("check", "y"), ("check", "z"), ("check", "w"),
    ]
    return [Program(["a"], rows + [("write", "c", list(args))]) for args in ("xxx", "y", "ya")]


def many_stands():
    """A program and a thing of it that has more than two thousand stands."""
    reads = [("read", name, channel) for name, channel in (("r", "c"), ("s", "d"))]
    again = [("read", name, channel) for name, channel in (("t", "c"), ("u", "d"))]
    joins = [("if", [], [], [("k", "r", "t"), ("l", "s", "u")]), ("if", [], [], [("m", "t", "r"), ("n", "u", "s")])]
    one = Program(["a"], [("loop", reads, [("loop", again, [
        *joins, ("make", "x", "f", ["k", "n"]), ("write", "c", ["a"]), ("write", "d", ["a"]), ("check", "x"),
        ("loop", [("read", "v", "c")], [("make", "y", "g", ["v", "m"]), ("write", "c", []), ("check", "y")]),
    ])])])
    marks = [("mark", "c", index) for index in range(3)]
    return one, ("order", ("made", "f", (marks[0], ("mark", "d", 0))), ("made", "g", (marks[1], marks[2])))


def altered(chance, value):
    """A value with one thing otherwise, at any depth: another value, one more, one fewer, one twice, or another order."""
    if isinstance(value, (tuple, list)) and value and chance.random() < 0.8:
        index = chance.randrange(len(value))
        parts = list(value)
        deed = chance.random()
        if deed < 0.7:
            parts[index] = altered(chance, parts[index])
        elif deed < 0.8:
            parts.pop(index)
        elif deed < 0.9:
            parts.insert(chance.randrange(len(parts) + 1), parts[index])
        else:
            chance.shuffle(parts)
        return type(value)(parts)
    if isinstance(value, tuple):
        return chance.choice([list(value), (), value + (0,), None])
    if isinstance(value, list):
        return chance.choice([tuple(value), [], value + [0], None])
    if isinstance(value, bool):
        return chance.choice([int(value), not value, None])
    if isinstance(value, int):
        return chance.choice([value + 1, value - 1, -value, bool(value), str(value)])
    return chance.choice([value + "x", "", "later", "gone", "0", "1", "-1", "a", "b", "c", "d", 0, None, [value]])
