"""Point 50: trees of names, of what is checked and of what is written."""

import unittest

from movedchecks.errors import NoName
from movedchecks.playing import events
from movedchecks.programs import Program
from movedchecks.trees import checked_trees, tree_of, trees, written_trees
from tests import model, telling
from tests.cases import Case
from tests.makers import Dense
from tests.values import any_values

A, B = ("in", "inp"), ("in", "other")
LEAVE = ("leave",)


def make(name, word, *args):
    return ("make", name, word, list(args))


def made(word, *parts):
    return ("made", word, parts)


def joined(*joins):
    """An if that makes x or y, and joins."""
    return ("if", [make("x", "f", "inp")], [("read", "y", "c")], list(joins))


class TreesTest(Case):
    def told(self, program, name, found):
        for _ in range(2):
            self.assertEqual(trees(program, name), found)
            trees(program, name).append(1)

    def test_plain_names(self):
        one = Program(["inp"], [make("x", "f", "inp", "inp"), ("read", "r", "c"), make("y", "g", "x", "r"), make("z", "h")])
        self.told(one, "inp", [A])
        self.told(one, "x", [made("f", A, A)])
        self.told(one, "r", [("seen", "c")])
        self.told(one, "y", [made("g", made("f", A, A), ("seen", "c"))])
        self.told(one, "z", [made("h")])

    def test_joins_of_one_if_go_together(self):
        one = Program(["inp"], [joined(("u", "x", "y"), ("v", "inp", "y")), make("w", "g", "u", "v"), make("k", "g", "u", "u")])
        self.told(one, "u", [made("f", A), ("seen", "c")])
        self.told(one, "v", [A, ("seen", "c")])
        self.told(one, "w", [made("g", made("f", A), A), made("g", ("seen", "c"), ("seen", "c"))])
        self.told(one, "k", [made("g", made("f", A), made("f", A)), made("g", ("seen", "c"), ("seen", "c"))])

    def test_joins_of_several_ifs_do_not(self):
        second = ("if", [make("p", "p")], [make("q", "q")], [("v", "p", "q"), ("s", "u", "q")])
        one = Program(["inp"], [joined(("u", "x", "y")), second, make("w", "g", "u", "v")])
        self.told(one, "w", [made("g", first, second) for first in (made("f", A), ("seen", "c"))
                             for second in (made("p"), made("q"))])
        self.told(one, "s", [made("f", A), made("q"), ("seen", "c")])

    def test_joins_of_joins(self):
        inner = ("if", [make("p", "p")], [], [("k", "p", "inp")])
        one = Program(["inp", "other"], [
            ("if", [inner], [make("q", "q", "other")], [("u", "k", "q"), ("v", "inp", "q")]), make("w", "g", "u", "v"),
        ])
        self.told(one, "k", [A, made("p")])
        self.told(one, "u", [A, made("p"), made("q", B)])
        self.told(one, "w", [made("g", A, A), made("g", made("p"), A), made("g", made("q", B), made("q", B))])

    def test_equal_trees_stand_once(self):
        one = Program(["inp"], [("if", [make("x", "f")], [make("y", "f")], [("u", "x", "y"), ("v", "inp", "inp")])])
        self.told(one, "u", [made("f")])
        self.told(one, "v", [A])

    def test_lists_with_a_leave_count(self):
        one = Program(["inp"], [("if", [make("x", "f"), LEAVE], [("read", "y", "c"), LEAVE], [("u", "x", "y")]),
                                make("w", "g", "u")])
        self.told(one, "u", [made("f"), ("seen", "c")])
        self.told(one, "w", [made("g", made("f")), made("g", ("seen", "c"))])

    def test_loops(self):
        one = Program(["inp"], [("loop", [("read", "r", "c")], [make("x", "f", "r"), ("loop", [], [make("y", "g", "x")])])])
        self.told(one, "y", [made("g", made("f", ("seen", "c")))])

    def test_no_name(self):
        one = Program(["inp"], [joined(("u", "x", "y"))])
        for value in any_values() + ["z", "c", "f", ("inp",), ["x"], {"x": 1}, ("in", "inp"), Program([], [])]:
            self.fails(NoName, trees, one, value, name=value)

    def test_random_programs(self):
        for seed in range(60):
            one = Dense(seed).dense()
            for name in [*one.inputs, *one.names()]:
                self.told(one, name, model.trees_of(one.inputs, one.rows(), name))


class CheckedAndWrittenTest(Case):
    def told(self, call, program, found):
        for _ in range(2):
            self.assertEqual(call(program), found)
            call(program).append(1)

    def test_checked(self):
        one = Program(["inp"], [("check", "inp"), joined(("u", "x", "y")), ("check", "u"), make("k", "a", "u"), ("check", "k"),
                                make("z", "f", "inp"), ("check", "z"), ("read", "r", "c"), ("check", "r"), make("n", "n")])
        self.told(checked_trees, one, [made("a", made("f", A)), made("a", ("seen", "c")), made("f", A)])
        self.told(checked_trees, Program([], []), [])

    def test_written(self):
        one = Program(["inp"], [("write", "d", []), joined(("u", "x", "y")), ("write", "c", ["inp", "u"]),
                                ("write", "b", ["u", "u", "inp"]), ("write", "c", ["inp"])])
        self.told(written_trees, one, [
            ("b", 0, made("f", A)), ("b", 0, ("seen", "c")), ("b", 1, made("f", A)), ("b", 1, ("seen", "c")), ("b", 2, A),
            ("c", 0, A), ("c", 1, made("f", A)), ("c", 1, ("seen", "c")),
        ])
        self.told(written_trees, Program([], [("write", "c", [])]), [])

    def test_rows_that_no_run_comes_to(self):
        one = Program(["inp"], [("if", [LEAVE], [LEAVE], []), make("x", "f"), ("check", "x"), ("write", "c", ["x"]),
                                ("loop", [make("y", "g"), LEAVE], [("check", "y"), ("write", "d", ["y"])])])
        self.told(checked_trees, one, [made("f"), made("g")])
        self.told(written_trees, one, [("c", 0, made("f")), ("d", 0, made("g"))])

    def test_rows_in_lists(self):
        one = Program(["inp"], [("loop", [make("x", "f"), ("check", "x")], [("if", [("write", "c", ["x"])], [], [])])])
        self.told(checked_trees, one, [made("f")])
        self.told(written_trees, one, [("c", 0, made("f"))])

    def test_random_programs(self):
        for seed in range(60):
            one = Dense(seed).dense()
            self.told(checked_trees, one, telling.checked_trees(one))
            self.told(written_trees, one, telling.written_trees(one))


class TreeOfTest(unittest.TestCase):
    def test_tree_of(self):
        self.assertEqual(tree_of(A), A)
        self.assertEqual(tree_of(("seen", "c", 7)), ("seen", "c"))
        self.assertEqual(tree_of(made("f")), made("f"))
        self.assertEqual(tree_of(made("f", A, ("seen", "c", 10 ** 39), made("g", ("seen", "d", 0)))),
                         made("f", A, ("seen", "c"), made("g", ("seen", "d"))))

    def test_results_of_runs(self):
        for seed in range(25):
            one = Dense(seed).dense()
            for words in model.choices_up_to(one, 4):
                for event in events(one, words):
                    if event[0] in ("make", "read", "join"):
                        self.assertIn(tree_of(event[2]), trees(one, event[1]))


if __name__ == "__main__":
    unittest.main()
