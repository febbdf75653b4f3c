"""Point 23 (with 2, 3, 4 and 12): programs, and programs that come by editing them."""

import unittest

from movedchecks.errors import (
    Deep, Full, Inside, MoveError, NoGap, NoName, NoRow, NotLast, Twice, Unseen, Wide, Wrong
)
from movedchecks.places import reach
from movedchecks.playing import Run
from movedchecks.programs import Program
from movedchecks.rows import frozen
from tests import cases, model
from tests.values import any_values

CHECK = ("check", "a")
LEAVE = ("leave",)
# Those of any_values that are different names, whatever else they look like.
NAMES = [[], (), ("made",), ("if",), ("start",), ["leave"], ("make", "x", "f"), ("make", "x", "f", "a")]


def make(name, *args):
    return ("make", name, "f", list(args))


def within_loops(rows, many):
    for _ in range(many):
        rows = [("loop", [], rows)]
    return rows


class Case(cases.Case):
    def refuses(self, inputs, rows, error, **fields):
        self.fails(error, Program, inputs, rows, **fields)
        self.fails(error, Program, tuple(inputs), tuple(rows), **fields)


class WrongTest(Case):
    def test_inputs(self):
        wrong = [["a", "a"], list("abcde"), ["A"], [""], ["abcdefghi"], [1], [True], [["a"]], "a", None, {"a": 1}]
        for inputs in wrong:
            self.fails(Wrong, Program, inputs, [], place=0)
            self.fails(Wrong, Program, inputs, None, place=0)
        for thing in any_values():
            if thing not in NAMES:
                self.fails(Wrong, Program, thing, [("check", "zz")], place=0)
        for inputs in [[], (), ["a"], ("abcdefgh", "b"), list("dcba")]:
            self.assertEqual(Program(inputs, []).inputs, tuple(sorted(inputs)))

    def test_rows(self):
        for thing in any_values():
            if thing not in ([], ()):
                self.fails(Wrong, Program, ["a"], thing, place=1)
            self.fails(Wrong, Program, ["a"], [thing], place=1)
        self.fails(Wrong, Program, ["a"], Program([], []), place=1)
        self.fails(Wrong, Program, Program([], []), [], place=0)
        self.fails(Wrong, Program, ["a"], [LEAVE, CHECK, ("check", 1)], place=1)
        self.fails(Wrong, Program, ["a"], [CHECK] * 30 + [("loop", [], [("if", [], [], [()])])], place=1)


class LimitsTest(Case):
    def test_full(self):
        self.assertEqual(len(Program(["a"], [CHECK] * 24)), 24)
        self.refuses(["a"], [CHECK] * 25, Full, limit=24)
        inner = ("if", [CHECK] * 10, [("loop", [CHECK] * 5, [CHECK] * 5)], [])
        self.assertEqual(len(Program(["a"], [inner, CHECK, CHECK])), 24)
        self.refuses(["a"], [inner, CHECK, CHECK, CHECK], Full, limit=24)

    def test_deep(self):
        self.assertEqual(len(Program(["a"], within_loops([CHECK], 3))), 4)
        self.assertEqual(len(Program([], within_loops([], 3))), 3)
        self.refuses(["a"], within_loops([CHECK], 4), Deep, limit=4)
        self.refuses([], [("if", [], within_loops([], 3), [])], Deep, limit=4)
        self.refuses([], [("loop", within_loops([], 3), [])], Deep, limit=4)

    def test_not_last(self):
        ends = [("if", [LEAVE], [CHECK, LEAVE], []), ("loop", [LEAVE], [LEAVE]), LEAVE]
        self.assertEqual(len(Program(["a"], ends)), 8)
        self.refuses(["a"], [LEAVE, CHECK], NotLast, address=(0,))
        self.refuses(["a"], [CHECK, LEAVE, LEAVE], NotLast, address=(1,))
        self.refuses(["a"], [CHECK, ("loop", [], [CHECK, LEAVE, CHECK]), LEAVE, CHECK], NotLast, address=(1, 1, 1))
        self.refuses(["a"], [LEAVE, ("loop", [LEAVE, CHECK], [])], NotLast, address=(0,))
        self.refuses(["a"], [("if", [], [LEAVE, CHECK], []), LEAVE, LEAVE], NotLast, address=(0, 1, 0))

    def test_twice(self):
        read, join = ("read", "x", "c"), ("if", [], [], [("x", "a", "a")])
        self.refuses(["a"], [make("x"), make("x")], Twice, name="x")
        self.refuses(["a"], [make("a")], Twice, name="a")
        self.refuses(["a"], [read, join], Twice, name="x")
        self.refuses(["a"], [("if", [], [], [("x", "a", "a"), ("x", "a", "a")])], Twice, name="x")
        self.refuses(["a"], [("if", [make("x")], [make("x")], [])], Twice, name="x")
        self.refuses(["a"], [("loop", [make("x")], [read])], Twice, name="x")
        self.refuses(["z", "y"], [make("z"), make("x"), make("x"), make("y")], Twice, name="x")
        self.refuses(["b"], [make("x"), make("x"), make("c"), make("b"), make("c")], Twice, name="b")

    def test_unseen(self):
        self.refuses(["a"], [("check", "x"), make("x")], Unseen, address=(0,), name="x")
        self.refuses(["a"], [make("x", "a", "z", "y")], Unseen, address=(0,), name="z")
        self.refuses(["a"], [make("x", "x")], Unseen, address=(0,), name="x")
        self.refuses(["a"], [("write", "c", ["b", "a"])], Unseen, address=(0,), name="b")
        self.refuses([], [("if", [("check", "b")], [], []), ("check", "a")], Unseen, address=(0, 0, 0), name="b")
        self.refuses(["a"], [("if", [make("x")], [("check", "x")], [])], Unseen, address=(0, 1, 0), name="x")
        self.refuses(["a"], [("if", [make("x")], [], []), ("check", "x")], Unseen, address=(1,), name="x")
        self.refuses(["a"], [("loop", [make("x")], [make("y")]), ("check", "x")], Unseen, address=(1,), name="x")
        self.refuses(["a"], [("loop", [("check", "y")], [make("y")])], Unseen, address=(0, 0, 0), name="y")

    def test_unseen_joins(self):
        rows = [("if", [make("x")], [make("y")], [("j", "y", "x")])]
        self.refuses(["a"], rows, Unseen, address=(0,), name="y")
        self.refuses(["a"], [("if", [make("x")], [make("y")], [("j", "x", "x")])], Unseen, address=(0,), name="x")
        self.refuses(["a"], [("if", [], [], [("j", "a", "a"), ("k", "j", "a")])], Unseen, address=(0,), name="j")
        self.refuses(["a"], [("if", [], [("check", "z")], [("j", "a", "q")])], Unseen, address=(0,), name="q")
        self.refuses(["a"], [("if", [], [("check", "z")], [("j", "a", "a")])], Unseen, address=(0, 1, 0), name="z")
        rows = [("if", [make("x"), LEAVE], [make("y"), LEAVE], [("j", "x", "y")]), ("check", "j")]
        self.assertEqual(Program(["a"], rows).names(), ["j", "x", "y"])
        self.refuses(["a"], [("if", [LEAVE], [make("y")], [("j", "y", "y")])], Unseen, address=(0,), name="y")

    def test_trees(self):
        four = [("if", [], [], [("x", "a", "b")]), ("if", [], [], [("y", "c", "d")]), make("z", "x", "y")]
        self.assertEqual(len(Program(list("abcd"), four)), 3)
        more = four + [("if", [], [], [("w", "z", "a")])]
        self.refuses(list("abcd"), more, Wide, name="w")
        self.refuses(list("abcd"), more + [make("b", "a")], Twice, name="b")
        self.refuses(list("abcd"), more + [make("k", "w"), make("v")], Wide, name="k")
        again = four + [("if", [], [], [("w", "z", "z")])]
        self.assertEqual(len(Program(list("abcd"), again)), 4)
        together = [("if", [], [], [("x", "a", "b"), ("y", "c", "d")]), ("if", [], [], [("v", "a", "b")])]
        self.assertEqual(len(Program(list("abcd"), together + [make("z", "x", "y", "v")])), 3)
        together.append(("if", [], [], [("u", "a", "b")]))
        self.refuses(list("abcd"), together + [make("z", "x", "u", "v")], Wide, name="z")

    def test_lists_with_a_leave_count(self):
        leaving = [("if", [LEAVE], [LEAVE], [("x", "a", "b")]), ("if", [LEAVE], [], [("y", "c", "d")])]
        rows = leaving + [make("z", "x", "y")]
        self.assertEqual(len(Program(list("abcd"), rows)), 6)
        self.refuses(list("abcd"), rows + [("if", [], [LEAVE], [("w", "z", "a")])], Wide, name="w")

    def test_parts(self):
        rows = [make("x", "a", "a", "a"), make("y", "x", "x", "a")]
        self.assertEqual(len(Program(["a"], rows + [make("z", "y", "a")])), 3)
        self.assertEqual(len(Program(["a"], rows + [make("z", "y")])), 3)
        self.refuses(["a"], rows + [make("z", "y", "a", "a")], Wide, name="z")
        self.refuses(["a"], rows + [make("z", "y", "a"), make("b", "z")], Wide, name="b")
        chain, last = [], "a"
        for name in "bcdefghijkl":
            chain.append(make(name, last))
            last = name
        self.assertEqual(len(Program(["a"], chain)), 11)
        self.refuses(["a"], chain + [make("m", "l")], Wide, name="m")

    def test_readings(self):
        rows = [("read", "r", "c"), ("read", "s", "d"), make("x", "r", "s"), make("y", "r", "r"), make("z", "y", "a")]
        self.assertEqual(len(Program(["a"], rows)), 5)
        self.refuses(["a"], rows + [make("v", "x", "r")], Wide, name="v")
        self.refuses(["a"], rows + [make("v", "r", "r", "s")], Wide, name="v")
        self.refuses(["a"], rows + [("if", [make("w", "y", "s")], [], [])], Wide, name="w")

    def test_parts_and_readings_together(self):
        rows = [("read", "r", "c"), make("x", "r", "r", "a"), make("y", "a", "a", "a"), make("z", "x", "y", "a")]
        self.assertEqual(len(Program(["a"], rows + [make("v", "z", "a")])), 5)
        self.refuses(["a"], rows + [make("v", "z", "a", "a")], Wide, name="v")
        self.refuses(["a"], rows + [make("v", "y", "y", "y")], Wide, name="v")
        self.refuses(["a"], rows + [make("v", "r", "r", "r")], Wide, name="v")
        self.refuses(["a"], rows + [make("v", "x", "r")], Wide, name="v")
        self.refuses(["a"], rows + [make("v", "a", "x", "r")], Wide, name="v")

    def test_one_wide_tree_of_a_join(self):
        rows = [make("x", "a", "a", "a"), make("y", "x", "x", "a"), ("if", [], [], [("j", "a", "y")])]
        self.assertEqual(len(Program(["a"], rows)), 3)
        self.refuses(["a"], rows + [make("z", "j", "x")], Wide, name="z")

    def test_long_chains_of_ifs(self):
        rows, one, other = [], "a", "b"
        for letter in "abcdefghijklmnopqrstuv":
            rows.append(("if", [], [], [("x" + letter, one, other), ("y" + letter, other, one)]))
            one, other = "x" + letter, "y" + letter
        self.assertEqual(len(Program(["a", "b"], rows + [make("z", one, other), make("v", "z")])), 24)
        self.refuses(["a", "b"], rows + [make("z", one, other), make("v", "z", "xa", "xb")], Wide, name="v")

    def test_the_order_of_errors(self):
        leave, twice, unseen = [LEAVE, CHECK], [make("x"), make("x")], [("check", "q")]
        wide = [("read", "r", "c"), make("w", "r", "r", "r")]
        deep = within_loops([], 4)
        self.refuses(["a"], [CHECK] * 20 + deep + leave + twice + unseen + wide, Full, limit=24)
        self.refuses(["a"], deep + leave + twice + unseen + wide, Deep, limit=4)
        self.refuses(["a"], wide + unseen + twice + leave, NotLast, address=(5,))
        self.refuses(["a"], wide + unseen + twice, Twice, name="x")
        self.refuses(["a"], wide + unseen, Unseen, address=(2,), name="q")
        self.refuses(["a"], wide, Wide, name="w")

    def test_wide_as_told_by_the_model(self):
        for seed in range(300):
            maker = model.Maker(seed, leaves=False)
            rows = maker.rows(["a", "b"], 14, 3)[0] + maker.rows(["a", "b"], 3, 2)[0]
            if len(list(model.all_rows(rows))) > 24:
                continue
            made = sorted(set().union(*[model.made_by(row) for _, row in model.all_rows(rows)]))
            trees = {name: model.trees_of(["a", "b"], rows, name) for name in made}
            wide = [
                name for name in made
                if len(trees[name]) > 4 or max(map(model.parts_of, trees[name])) > 12
                or max(map(model.readings_of, trees[name])) > 2
            ]
            if wide:
                self.refuses(["b", "a"], rows, Wide, name=wide[0])
            else:
                self.assertEqual(Program(["b", "a"], rows).names(), made)


def sample():
    """A program with ifs, joins, leaves and loops within one another."""
    return Program(["b", "a"], [
        make("x", "a"),
        ("if", [make("y", "x"), ("loop", [make("o")], [("check", "o"), make("p", "o")])],
         [("read", "r", "in"), LEAVE], [("j", "y", "r")]),
        ("loop", [("if", [LEAVE], [make("n")], [("m", "a", "n")])], [("write", "out", ["m", "j"]), LEAVE]),
        ("check", "j"),
    ])


class AskingTest(Case):
    def test_sample(self):
        program = sample()
        for _ in range(2):
            self.assertEqual(program.inputs, ("a", "b"))
            self.assertEqual(program.rows(), [frozen(row) for row in program.rows()])
            self.assertEqual(program.rows()[0], ("make", "x", "f", ("a",)))
            self.assertEqual(program.addresses(), [
                (0,), (1,), (1, 0, 0), (1, 0, 1), (1, 0, 1, 0, 0), (1, 0, 1, 1, 0), (1, 0, 1, 1, 1), (1, 1, 0),
                (1, 1, 1), (2,), (2, 0, 0), (2, 0, 0, 0, 0), (2, 0, 0, 1, 0), (2, 1, 0), (2, 1, 1), (3,),
            ])
            self.assertEqual(len(program), 16)
            self.assertEqual(program.names(), ["j", "m", "n", "o", "p", "r", "x", "y"])
            self.assertEqual(program.used_channels(), ["in", "out"])
            self.assertEqual(program.row_at((2, 1, 0)), ("write", "out", ("m", "j")))
            self.assertEqual(program.row_at((1, 1, 1)), LEAVE)
            self.assertEqual(
                [program.row_of(name) for name in ["a", "b", *program.names()]],
                [None, None, (1,), (2, 0, 0), (2, 0, 0, 1, 0), (1, 0, 1, 0, 0), (1, 0, 1, 1, 1), (1, 1, 0), (0,),
                 (1, 0, 0)],
            )

    def test_in_sight(self):
        sights = {
            (0,): "ab", (1,): "abx", (1, 0, 0): "abx", (1, 0, 1): "abxy", (1, 0, 1, 0, 0): "abxy",
            (1, 0, 1, 0, 1): "aboxy", (1, 0, 1, 1, 0): "aboxy", (1, 0, 1, 1, 1): "aboxy", (1, 0, 1, 1, 2): "abopxy",
            (1, 0, 2): "abxy", (1, 1, 0): "abx", (1, 1, 1): "abrx", (1, 1, 2): "abrx", (2,): "abjx",
            (2, 0, 0): "abjx", (2, 0, 0, 0, 0): "abjx", (2, 0, 0, 0, 1): "abjx", (2, 0, 0, 1, 0): "abjx",
            (2, 0, 0, 1, 1): "abjnx", (2, 0, 1): "abjmx", (2, 1, 0): "abjmx", (2, 1, 1): "abjmx", (2, 1, 2): "abjmx",
            (3,): "abjx", (4,): "abjx",
        }
        program = sample()
        for _ in range(2):
            self.assertEqual(program.gaps(), sorted(sights))
            for gap in sights:
                self.assertEqual(program.in_sight(gap), list(sights[gap]), gap)

    def test_random_programs(self):
        for seed in range(80):
            program = model.Maker(seed).program()
            rows = program.rows()
            table = dict(model.all_rows(rows))
            self.assertEqual(program.addresses(), sorted(table))
            self.assertEqual(len(program), len(table))
            self.assertEqual(program.gaps(), model.all_gaps(rows))
            for address in table:
                self.assertEqual(program.row_at(address), table[address])
                for name in model.made_by(table[address]):
                    self.assertEqual(program.row_of(name), address)
            for gap in program.gaps():
                self.assertEqual(program.in_sight(gap), sorted(model.in_sight(program.inputs, rows, gap)))

    def test_names_that_are_kinds_elsewhere(self):
        rows = [("read", "leave", "loop"), ("check", "leave"), ("make", "if", "leave", ["leave"]), ("write", "if", ["leave"]),
                ("read", "check", "leave"), ("if", [("check", "leave")], [("read", "loop", "if")], [("make", "leave", "loop")])]
        program = Program([], rows)
        self.assertEqual(program.rows(), [frozen(row) for row in rows])
        self.assertEqual(program.names(), ["check", "if", "leave", "loop", "make"])
        self.assertEqual(program.in_sight((5, 1, 1)), ["check", "if", "leave", "loop"])
        self.assertEqual(reach(program, (1,)), [gap for gap in program.gaps() if gap != (0,)])

    def test_empty(self):
        program = Program([], [])
        self.assertEqual([program.inputs, program.rows(), program.addresses(), program.names()], [(), [], [], []])
        self.assertEqual([program.gaps(), program.in_sight((0,)), program.used_channels()], [[(0,)], [], []])
        self.assertEqual(len(program), 0)
        self.fails(NoRow, program.row_at, (0,), address=(0,))

    def test_other_values(self):
        program = sample()
        wrong = [(4,), (1, 0), (1, 2, 0), (2, 0, 0, 0, 2), (0, 0, 0), (1, True, 0), (True,), (False,), [0], [1, 0, 0]]
        for thing in wrong + any_values():
            if thing != (4,):
                error = self.fails(NoGap, program.in_sight, thing, gap=thing)
                self.assertIs(error.gap, thing)
            self.assertIs(self.fails(NoRow, program.row_at, thing, address=thing).address, thing)
            self.assertIs(self.fails(NoRow, program.out, thing, address=thing).address, thing)
            if thing != "a":
                self.assertIs(self.fails(NoName, program.row_of, thing, name=thing).name, thing)
        for name in ("f", "in", "out", "c", "z", "A", ["a"], ("a",)):
            self.fails(NoName, program.row_of, name, name=name)
        self.fails(NoRow, program.row_at, (1, 0, 2), address=(1, 0, 2))

    def test_lists_are_new_and_arguments_are_copied(self):
        args, inner, joins, inputs = ["a"], [CHECK], [("j", "a", "a")], ["b", "a"]
        rows = [("make", "x", "f", args), ("if", inner, [], joins)]
        program = Program(inputs, rows)
        kept = [("make", "x", "f", ("a",)), ("if", (CHECK,), (), (("j", "a", "a"),))]
        self.assertEqual([inputs, rows], [["b", "a"], [("make", "x", "f", ["a"]), ("if", [CHECK], [], joins)]])
        args.append("q"), inner.append(1), joins.clear(), inputs.clear(), rows.reverse()
        self.assertEqual([program.rows(), program.inputs], [kept, ("a", "b")])
        for ask in (program.rows, program.addresses, program.gaps, program.names, program.used_channels,
                    lambda: program.in_sight((2,))):
            told = ask()
            again = list(told)
            told.append(1)
            told.reverse()
            self.assertEqual(ask(), again)
            self.assertIsInstance(ask(), list)

    def test_equal(self):
        rows = [make("x", "a"), ("loop", [], [CHECK])]
        one = Program(["a", "b"], rows)
        self.assertIs(one == Program(("b", "a"), tuple(frozen(row) for row in rows)), True)
        self.assertIs(one != Program(("b", "a"), rows), False)
        for other in (
            Program(["a"], rows), Program(["a", "b"], rows[::-1]), Program(["a", "b"], rows[:1]),
            Program(["a", "c"], rows), Program(["a", "b"], [make("y", "a"), rows[1]]),
            Program(["a", "b"], [rows[0], ("loop", [CHECK], [])]), Run(one),
        ):
            self.assertIs(one == other, False)
            self.assertIs(one != other, True)
        for thing in [*any_values(), rows, one.rows(), (one.inputs, rows)]:
            self.assertIs(one == thing, False)
            self.assertIs(Program([], []) == thing, False)

    def test_inputs_is_a_property(self):
        self.assertIsInstance(vars(Program)["inputs"], property)
        with self.assertRaises(AttributeError):
            sample().inputs = ()


class EditingTest(Case):
    def test_put(self):
        program = Program(["a"], [CHECK, ("loop", [], [make("x")])])
        self.assertEqual(program.put((0,), make("y")).rows()[0], ("make", "y", "f", ()))
        self.assertEqual(program.put((2,), LEAVE).rows()[1:], [program.rows()[1], LEAVE])
        new = program.put((1, 1, 1), ("write", "c", ["x"]))
        self.assertEqual(new.row_at((1, 1, 1)), ("write", "c", ("x",)))
        self.assertEqual(new.row_at((1, 1, 0)), program.row_at((1, 1, 0)))
        new = program.put((1, 0, 0), ("if", [CHECK], [], []))
        self.assertEqual(new.rows(), [CHECK, ("loop", (("if", (CHECK,), (), ()),), (("make", "x", "f", ()),))])
        self.assertEqual(program, Program(["a"], [CHECK, ("loop", [], [make("x")])]))

    def test_put_errors(self):
        program = Program(["a"], [("loop", [], [make("x")]), LEAVE])
        for thing in any_values():
            if thing != (10 ** 9,):
                self.fails(Wrong, program.put, thing, None, place=0)
                self.fails(Wrong, program.put, thing, CHECK, place=0)
            self.fails(Wrong, program.put, (9,), thing, place=1)
        self.fails(NoGap, program.put, (9,), CHECK, gap=(9,))
        self.fails(NoGap, program.put, (0, 2, 0), LEAVE, gap=(0, 2, 0))
        self.fails(NotLast, program.put, (0,), LEAVE, address=(0,))
        self.fails(NotLast, program.put, (2,), CHECK, address=(1,))
        self.fails(Twice, program.put, (0,), make("x"), name="x")
        self.fails(Unseen, program.put, (1,), ("check", "x"), address=(1,), name="x")
        self.fails(Deep, program.put, (0, 1, 0), within_loops([], 3)[0], limit=4)
        self.fails(Full, program.put, (0,), ("loop", [CHECK] * 21, []), limit=24)
        self.fails(Full, program.put, (2,), ("loop", within_loops([CHECK] * 21, 5), []), limit=24)
        self.fails(Wide, program.put, (0,), ("if", [("read", "r", "c"), make("w", "r", "r", "r")], [], []), name="w")
        self.assertEqual(program.rows(), [("loop", (), (("make", "x", "f", ()),)), LEAVE])

    def test_what_is_put_is_copied(self):
        args = ["a"]
        program = Program(["a"], []).put((0,), ("write", "c", args))
        args.append("b")
        self.assertEqual(program.row_at((0,)), ("write", "c", ("a",)))

    def test_out(self):
        program = sample()
        self.assertEqual(program.out((3,)).rows(), program.rows()[:3])
        self.assertEqual(program.out((2,)).rows(), program.rows()[:2] + program.rows()[3:])
        self.assertEqual(program.out((1, 1, 1)).row_at((1,))[2], (("read", "r", "in"),))
        self.assertEqual(len(program.out((2, 0, 0, 0, 0))), 15)
        self.fails(Unseen, program.out, (0,), address=(0, 0, 0), name="x")
        self.fails(Unseen, program.out, (1,), address=(1, 1, 0), name="j")
        self.fails(NoRow, program.out, (4,), address=(4,))
        self.assertEqual(program, sample())

    def test_moved(self):
        rows = [make("x"), CHECK, ("loop", [], [("read", "r", "c")]), ("write", "c", ["a"])]
        program = Program(["a"], rows)
        for address, gap, order in [((1,), (0,), [1, 0, 2, 3]), ((0,), (4,), [1, 2, 3, 0]), ((3,), (1,), [0, 3, 1, 2]),
                                    ((2,), (2,), [0, 1, 2, 3]), ((2,), (3,), [0, 1, 2, 3]), ((2,), (1,), [0, 2, 1, 3])]:
            for _ in range(2):
                self.assertEqual(program.moved(address, gap), Program(["a"], [rows[k] for k in order]))
        self.assertEqual(program.moved((0,), (2, 1, 1)).rows(), [
            CHECK, ("loop", (), (("read", "r", "c"), ("make", "x", "f", ()))), ("write", "c", ("a",)),
        ])
        self.assertEqual(program.moved((3,), (2, 0, 0)).rows()[2:], [
            ("loop", (("write", "c", ("a",)),), (("read", "r", "c"),)),
        ])
        self.assertEqual(program.moved((2, 1, 0), (0,)).rows(), [("read", "r", "c"), *Program(["a"], [
            make("x"), CHECK, ("loop", [], []), ("write", "c", ["a"])]).rows()])
        self.assertEqual(program.moved((2, 1, 0), (2,)).row_at((2,)), ("read", "r", "c"))
        self.assertEqual(program.moved((2, 1, 0), (3,)).row_at((3,)), ("read", "r", "c"))

    def test_moved_of_a_row_with_lists(self):
        program = Program(["a"], [("if", [CHECK], [LEAVE], []), ("loop", [("loop", [], [])], [])])
        self.assertEqual(program.moved((1,), (0, 0, 1)).rows(), [
            ("if", (CHECK, ("loop", (("loop", (), ()),), ())), (LEAVE,), ()),
        ])
        self.assertEqual(program.moved((1, 0, 0), (1, 1, 0)).row_at((1,)), ("loop", (), (("loop", (), ()),)))
        for gap in [(1, 0, 0), (1, 0, 1), (1, 1, 0), (1, 0, 0, 0, 0), (1, 0, 0, 1, 0)]:
            self.fails(Inside, program.moved, (1,), gap, gap=gap)
        self.assertEqual(program.moved((1,), (1,)), program)
        self.assertEqual(program.moved((1,), (2,)), program)

    def test_moved_errors(self):
        program = sample()
        for thing in any_values():
            self.fails(NoRow, program.moved, thing, (9,), address=thing)
            self.fails(NoGap, program.moved, (0,), thing, gap=thing)
        self.fails(NoRow, program.moved, (True,), (0,), address=(True,))
        self.fails(NoGap, program.moved, (0,), (False,), gap=(False,))
        self.fails(Inside, program.moved, (1,), (1, 0, 1, 1, 0), gap=(1, 0, 1, 1, 0))
        self.fails(Unseen, program.moved, (0,), (2,), address=(0, 0, 0), name="x")
        self.fails(NotLast, program.moved, (1, 1, 1), (0,), address=(0,))
        self.fails(Deep, program.moved, (2,), (1, 0, 1, 1, 0), limit=4)
        self.assertEqual(program, sample())

    def test_moved_as_out_and_put(self):
        for seed in range(40):
            program = model.Maker(seed).program(least=4, most=9)
            for address in program.addresses():
                for gap in program.gaps():
                    self.compare_moved(program, address, gap)

    def compare_moved(self, program, address, gap):
        if gap[:len(address)] == address and len(gap) > len(address):
            self.fails(Inside, program.moved, address, gap, gap=gap)
            return
        # The row is marked where it was, put in at the gap, and the mark taken out: no index is counted anew here.
        rows = self.thawed(program.rows())
        here = model.list_at(rows, address[:-1])
        row, here[address[-1]] = here[address[-1]], ["mark"]
        model.list_at(rows, gap[:-1]).insert(gap[-1], row)
        try:
            expected = Program(program.inputs, self.as_rows(rows))
        except MoveError as error:
            self.fails(type(error), program.moved, address, gap, **vars(error))
        else:
            self.assertEqual(program.moved(address, gap), expected)

    def thawed(self, rows):
        return [
            [row[0], self.thawed(row[1]), self.thawed(row[2]), *row[3:]] if row[0] in ("if", "loop") else row
            for row in rows
        ]

    def as_rows(self, rows):
        return [
            (row[0], self.as_rows(row[1]), self.as_rows(row[2]), *row[3:]) if row[0] in ("if", "loop") else tuple(row)
            for row in rows if row != ["mark"]
        ]


class RenamedTest(Case):
    def test_renamed(self):
        program = sample()
        names = {name: "n" + name for name in ["a", "b", *program.names()]}
        new = program.renamed(names)
        self.assertEqual(names, {name: "n" + name for name in ["a", "b", *program.names()]})
        self.assertEqual(new.inputs, ("na", "nb"))
        self.assertEqual(new.names(), ["n" + name for name in program.names()])
        self.assertEqual(new.used_channels(), program.used_channels())
        self.assertEqual(new.row_at((2, 1, 0)), ("write", "out", ("nm", "nj")))
        for gap in program.gaps():
            self.assertEqual(new.in_sight(gap), ["n" + name for name in program.in_sight(gap)])
        self.assertEqual(new.renamed({names[name]: name for name in names}), program)

    def test_exchanged_names(self):
        program = Program(["a", "b"], [make("x", "a"), make("y", "x", "b"), ("check", "y")])
        names = {"a": "b", "b": "a", "x": "y", "y": "x"}
        new = program.renamed(names)
        self.assertEqual(new.rows(), [("make", "y", "f", ("b",)), ("make", "x", "f", ("y", "a")), ("check", "x")])
        self.assertEqual([new.inputs, new == program], [("a", "b"), False])
        names.clear()
        self.assertEqual(new.renamed({"a": "b", "b": "a", "x": "y", "y": "x"}), program)
        self.assertEqual(program.renamed({name: name for name in "abxy"}), program)


if __name__ == "__main__":
    unittest.main()
