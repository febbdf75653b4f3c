"""Point 22: rows by their form."""

import unittest

from movedchecks.rows import (
    are_rows, count, depth, frozen, is_row, lists_of, makes, renamed, uses, with_lists
)
from tests.model import Maker, all_rows, made_by
from tests.values import any_values, nested

MAKE = ("make", "x", "f", ["a", "b", "a"])
READ = ("read", "r", "disk")
CHECK = ("check", "x")
WRITE = ("write", "log", ["a", "x"])
LEAVE = ("leave",)
IF = ("if", [MAKE, LEAVE], [READ], [("j", "x", "r"), ("k", "a", "b")])
LOOP = ("loop", [MAKE, CHECK], [IF, WRITE])
ROWS = [MAKE, READ, CHECK, WRITE, LEAVE, IF, LOOP]


def as_tuples(thing):
    return tuple(as_tuples(part) for part in thing) if isinstance(thing, (list, tuple)) else thing


class FormTest(unittest.TestCase):
    def rows_are(self, truth, rows):
        for row in rows:
            self.assertIs(is_row(row), truth, row)
            self.assertIs(are_rows([row]), truth, row)
            self.assertIs(are_rows((MAKE, row)), truth, row)
            for inner in (("if", [row], [], []), ("if", [], [row], []), ("loop", [row], []), ("loop", [], (row,))):
                self.assertIs(is_row(inner), truth, inner)
                self.assertIs(is_row(("loop", [], [("if", [CHECK, inner], [], [])])), truth, inner)

    def test_right_rows(self):
        self.rows_are(True, ROWS)
        self.rows_are(True, [as_tuples(row) for row in ROWS])
        self.rows_are(True, [
            ("make", "x", "x", []), ("make", "abcdefgh", "a", ()), ("make", "x", "f", ("a", "a", "a")),
            ("write", "c", []), ("write", "c", ["a", "b", "c"]), ("read", "x", "x"), ("check", "abcdefgh"),
            ("if", [], [], []), ("if", (), (), ()), ("loop", [], ()), ("if", [], [], [("x", "x", "x")] * 40),
            ("loop", [LEAVE, CHECK], [LEAVE, LEAVE]),
        ])

    def test_wrong_makes_and_reads(self):
        self.rows_are(False, [
            ("make", "x", "f"), ("make", "x", "f", [], []), ("make",), ("make", "X", "f", []), ("make", "x", "", []),
            ("make", "x", 1, []), ("make", "x", "f", "a"), ("make", "x", "f", None), ("make", "x", "f", {}),
            ("make", "x", "f", ["a", "b", "c", "d"]), ("make", "x", "f", ["A"]), ("make", "x", "f", [["a"]]),
            ("make", "abcdefghi", "f", []), ("make", True, "f", []), ["make", "x", "f", []],
            ("read", "r"), ("read", "r", "disk", []), ("read", "r", ["disk"]), ("read", 0, "disk"), ("read",),
            ("read", "r", "Disk"), ["read", "r", "disk"],
        ])

    def test_wrong_checks_writes_and_leaves(self):
        self.rows_are(False, [
            ("check",), ("check", "x", "y"), ("check", ["x"]), ("check", ""), ("check", None), ["check", "x"],
            ("write", "log"), ("write", "log", "a"), ("write", ["log"], []), ("write", "log", ["a"] * 4),
            ("write", "log", [], []), ("write", "log", [0]), ["write", "log", []],
            ("leave", ()), ("leave", "x"), ["leave"], ("Leave",), ("",), (), ("start", ()), (None,), (("leave",),),
        ])

    def test_wrong_ifs_and_loops(self):
        self.rows_are(False, [
            ("if", [], []), ("if", [], [], [], []), ("if", [], [], None), ("if", [], [], {}), ("if", [], None, []),
            ("if", MAKE, [], []), ("if", [[]], [], []), ("if", [], [], ["xyz"]), ("if", [], [], [["x", "y", "z"]]),
            ("if", [], [], [("x", "y")]), ("if", [], [], [("x", "y", "z", "x")]), ("if", [], [], [("x", "y", 1)]),
            ("if", [], [], [("x", "", "z")]), ("if", [], [], ("x", "y", "z")), ["if", [], [], []],
            ("loop", []), ("loop", [], [], []), ("loop", [], CHECK), ("loop", "", []), ["loop", [], []],
        ])

    def test_any_values(self):
        for thing in any_values():
            self.assertIs(is_row(thing), False, thing)
            self.assertIs(are_rows([thing]), False, thing)
            self.assertIs(are_rows(thing), thing in ([], ()) and thing is not None, thing)
            self.assertIs(is_row(("loop", [], thing)), thing in ([], ()), thing)

    def test_deep_rows(self):
        row = ("loop", [], [])
        for _ in range(18):
            row = ("if", [row], [], [])
        self.assertIs(is_row(row), True)
        self.assertEqual([count([row]), depth([row])], [19, 20])
        row = nested("leave", 30)
        self.assertIs(is_row(row), False)


class PartsTest(unittest.TestCase):
    def test_frozen(self):
        for row in ROWS:
            for _ in range(2):
                self.assertEqual(frozen(row), as_tuples(row))
            self.assertEqual(frozen(as_tuples(row)), as_tuples(row))

    def test_lists_of(self):
        for row in (MAKE, READ, CHECK, WRITE, LEAVE):
            self.assertEqual(lists_of(row), [])
        self.assertEqual(lists_of(IF), [[as_tuples(MAKE), LEAVE], [READ]])
        self.assertEqual(lists_of(as_tuples(LOOP)), [[as_tuples(MAKE), CHECK], [as_tuples(IF), as_tuples(WRITE)]])
        self.assertEqual(lists_of(("if", (), [], [("x", "y", "z")])), [[], []])

    def test_lists_of_are_new(self):
        lists = lists_of(LOOP)
        lists[0].append(1)
        lists.pop()
        self.assertEqual(lists_of(LOOP), [[as_tuples(MAKE), CHECK], [as_tuples(IF), as_tuples(WRITE)]])
        both = lists_of(("loop", [], []))
        self.assertIsNot(both[0], both[1])

    def test_with_lists(self):
        self.assertEqual(
            with_lists(IF, [[], [MAKE]]),
            ("if", (), (as_tuples(MAKE),), (("j", "x", "r"), ("k", "a", "b"))),
        )
        self.assertEqual(with_lists(LOOP, [[CHECK], []]), ("loop", (CHECK,), ()))
        for row in (MAKE, READ, CHECK, WRITE, LEAVE):
            self.assertEqual(with_lists(row, []), as_tuples(row))
        for row in ROWS:
            self.assertEqual(with_lists(row, lists_of(row)), as_tuples(row))

    def test_makes(self):
        self.assertEqual(
            [makes(row) for row in ROWS], [["x"], ["r"], [], [], [], ["j", "k"], []],
        )
        self.assertEqual(makes(("if", [], [], (("z", "a", "a"), ("b", "a", "a"), ("z", "a", "b")))), ["z", "b", "z"])

    def test_uses(self):
        self.assertEqual(
            [uses(row) for row in ROWS],
            [["a", "b", "a"], [], ["x"], ["a", "x"], [], ["x", "r", "a", "b"], []],
        )
        self.assertEqual(uses(("if", [CHECK], [], (("z", "b", "a"), ("y", "b", "b")))), ["b", "a", "b", "b"])
        for row in (MAKE, CHECK, WRITE, IF):
            for same in (row, frozen(row)):
                kept = list(uses(same))
                uses(same).append("more"), makes(same).append("more")
                self.assertEqual([uses(same), makes(same)], [kept, makes(row)])
                self.assertIsInstance(uses(same), list)

    def test_renamed(self):
        names = {"x": "a", "a": "x", "r": "new", "j": "f", "f": "no", "disk": "no", "log": "no", "leave": "no"}
        self.assertEqual(renamed(MAKE, names), ("make", "a", "f", ("x", "b", "x")))
        self.assertEqual(renamed(READ, names), ("read", "new", "disk"))
        self.assertEqual(renamed(CHECK, names), ("check", "a"))
        self.assertEqual(renamed(WRITE, names), ("write", "log", ("x", "a")))
        self.assertEqual(renamed(LEAVE, names), LEAVE)
        new_if = (
            "if", (("make", "a", "f", ("x", "b", "x")), LEAVE), (("read", "new", "disk"),),
            (("f", "a", "new"), ("k", "x", "b")),
        )
        self.assertEqual(renamed(IF, names), new_if)
        self.assertEqual(
            renamed(LOOP, names),
            ("loop", (("make", "a", "f", ("x", "b", "x")), ("check", "a")), (new_if, ("write", "log", ("x", "a")))),
        )
        for row in ROWS:
            self.assertEqual(renamed(row, {}), as_tuples(row))

    def test_count_and_depth(self):
        self.assertEqual([count([]), depth([])], [0, 1])
        self.assertEqual([count([MAKE, CHECK]), depth((MAKE, CHECK))], [2, 1])
        self.assertEqual([count([("loop", [], [])]), depth([("loop", [], [])])], [1, 2])
        self.assertEqual([count(ROWS), depth(ROWS)], [5 + 4 + 8, 3])
        self.assertEqual([count((LOOP, IF)), depth([CHECK, ("if", [], [LOOP], [])])], [12, 4])

    def test_random_rows(self):
        for seed in range(60):
            rows = Maker(seed).program().rows()
            table = dict(all_rows(rows))
            self.assertEqual(count(rows), len(table))
            self.assertEqual(depth(rows), max(len(road) // 2 for road in [*table, (0,)] + [
                address + (0, 0) for address in table if table[address][0] in ("if", "loop")
            ]) + 1)
            for row in table.values():
                self.assertIs(is_row(row), True)
                self.assertEqual(set(makes(row)), made_by(row))

    def test_arguments_stay(self):
        args, inner = ["a"], []
        inner.append(("make", "x", "f", args))
        joins = [("j", "x", "a")]
        row, names = ("if", inner, [], joins), {"x": "y", "a": "b"}
        for call in (frozen, lists_of, makes, uses, is_row, lambda row: renamed(row, names)):
            call(row)
        count([row]), depth([row]), with_lists(row, [inner, []])
        self.assertEqual(
            [args, inner, joins, names],
            [["a"], [("make", "x", "f", ["a"])], [("j", "x", "a")], {"x": "y", "a": "b"}],
        )
        told = [frozen(row), with_lists(row, [inner, []]), lists_of(row)[0]]
        args.append("b"), inner.append(1), joins.append(1)
        self.assertEqual(told[0], ("if", (("make", "x", "f", ("a",)),), (), (("j", "x", "a"),)))
        self.assertEqual(told[1], told[0])
        self.assertEqual(told[2], [("make", "x", "f", ("a",))])


if __name__ == "__main__":
    unittest.main()
