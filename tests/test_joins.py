"""Point 72: rows of which one is enough, and checks that can be left out."""

import unittest

from movedchecks.alike import are_alike
from movedchecks.errors import NoPair, TooMany
from movedchecks.joins import joinable, joined, pairs, spare
from movedchecks.programs import Program
from movedchecks.rows import frozen
from tests import model
from tests.cases import CHECK_X, CHECK_Y, IF, LEAVE, LOG, OUT, Case, full_of_things, many_stands, program
from tests.makers import Dense
from tests.sheets import Sheet, checks_of, or_error, rows_of
from tests.values import any_values


def drawn(seed, rows=15):
    """A drawn program in which some makes and reads are done once more, with other names."""
    maker = Dense(seed, words=("f",), channels=("c",))
    one = maker.dense(rows - 4, 2, 1, 2)
    for _ in range(4):
        plain = [row for _, row in model.all_rows(one.rows()) if row[0] in ("make", "read")]
        gaps = one.gaps()
        if not plain:
            break
        row = maker.random.choice(plain)
        new = (row[0], maker.name(), *row[2:])
        put = or_error(lambda: one.put(maker.random.choice(gaps), new))
        if isinstance(put, Program):
            one = put
            use = or_error(lambda: one.put(maker.random.choice(one.gaps()), ("check", new[1])))
            one = use if isinstance(use, Program) and len(one) < 15 else one
    return one


def pairs_plainly(one):
    rows, found = list(model.all_rows(one.rows())), []
    for first, row in rows:
        for second, other in rows:
            same = row[0] == other[0] == "make" and row[2:] == other[2:] or row[0] == other[0] == "read" and row[2] == other[2]
            if same and row[1] in model.in_sight(one.inputs, one.rows(), second):
                found.append((first, second))
    return sorted(found)


def with_name(row, elder, new):
    """The row in which a name that it uses is another one."""
    def told(name):
        return new if name == elder else name

    if row[0] == "check":
        return ("check", told(row[1]))
    if row[0] == "make":
        return ("make", row[1], row[2], [told(name) for name in row[3]])
    if row[0] == "write":
        return ("write", row[1], [told(name) for name in row[2]])
    if row[0] in ("if", "loop"):
        lists = [[with_name(inner, elder, new) for inner in part] for part in row[1:3]]
        return (row[0], *lists, *[[(join[0], told(join[1]), told(join[2])) for join in part] for part in row[3:]])
    return row


def joined_plainly(one, pair):
    sheet = Sheet(one)
    elder = sheet.take(pair[1])[1]
    new = one.row_at(pair[0])[1]
    return Program(one.inputs, [with_name(row, elder, new) for row in rows_of(sheet.cells)])


class PairsTest(Case):
    def test_drawn_programs(self):
        kinds = {"make": 0, "read": 0}
        for seed in range(120):
            one = drawn(seed) if seed % 2 else model.Maker(seed, words=("f",), channels=("c",)).program(8, 22)
            found = pairs_plainly(one)
            for pair in found:
                kinds[one.row_at(pair[0])[0]] += 1
            told = pairs(one)
            self.assertEqual(told, found)
            told.append(1)
            self.assertEqual(pairs(one), found)
        self.assertGreater(min(kinds.values()), 40)

    def test_in_sight_and_out_of_sight(self):
        def make(name, *args):
            return ("make", name, "f", list(args))

        one = Program(["a"], [make("x"), make("y"), make("z", "a")])
        self.assertEqual(pairs(one), [((0,), (1,))])
        self.assertEqual(pairs(Program([], [make("x"), ("make", "y", "g", []), ("read", "r", "f"), ("read", "s", "f")])), [((2,), (3,))])
        lists = Program([], [("if", [make("x")], [make("y")], []), make("z")])
        self.assertEqual(pairs(lists), [])
        loop = Program([], [("loop", [make("x")], [make("y")]), make("z")])
        self.assertEqual(pairs(loop), [((0, 0, 0), (0, 1, 0))])
        deep = Program([], [make("z"), ("loop", [], [("if", [make("x")], [make("y"), make("w")], [])])])
        self.assertEqual(pairs(deep), [((0,), (1, 1, 0, 0, 0)), ((0,), (1, 1, 0, 1, 0)), ((0,), (1, 1, 0, 1, 1)),
                                       ((1, 1, 0, 1, 0), (1, 1, 0, 1, 1))])
        reads = Program([], [("read", "r", "c"), ("read", "s", "d"), ("write", "c", []), ("read", "t", "c")])
        self.assertEqual(pairs(reads), [((0,), (3,))])
        three = Program(["a", "b"], [make("x", "a", "b"), make("y", "b", "a"), make("z", "a", "b"), make("w", "a")])
        self.assertEqual(pairs(three), [((0,), (2,))])
        self.assertEqual(pairs(Program([], [])), [])
        self.assertEqual(pairs(program(CHECK_X, CHECK_X, LOG, LOG, IF, IF, LEAVE)), [])


class JoinedTest(Case):
    def test_drawn_programs(self):
        told = 0
        for seed in range(120):
            one = drawn(seed)
            for pair in pairs(one):
                found = joined_plainly(one, pair)
                self.assertEqual(joined(one, pair), found)
                self.assertEqual(joined(one, pair), found)
                self.assertEqual(len(found), len(one) - 1)
                told += 1
        self.assertGreater(told, 150)

    def test_wherever_the_name_stands(self):
        rows = [
            ("make", "x", "f", ["a"]), ("make", "y", "f", ["a"]), ("make", "z", "g", ["y", "x", "y"]), ("check", "y"),
            ("write", "c", ["x", "y", "a"]), ("if", [("check", "y")], [], [("j", "y", "x"), ("k", "a", "y")]),
            ("loop", [("write", "c", ["y"])], [("if", [], [("make", "w", "g", ["y"])], [("m", "y", "w")])]),
        ]
        self.assertEqual(joined(Program(["a"], rows), ((0,), (1,))).rows(), [frozen(row) for row in [
            ("make", "x", "f", ["a"]), ("make", "z", "g", ["x", "x", "x"]), ("check", "x"), ("write", "c", ["x", "x", "a"]),
            ("if", [("check", "x")], [], [("j", "x", "x"), ("k", "a", "x")]),
            ("loop", [("write", "c", ["x"])], [("if", [], [("make", "w", "g", ["x"])], [("m", "x", "w")])]),
        ]])

    def test_no_pairs(self):
        one = Program(["a"], [
            ("make", "x", "f", ["a"]), ("make", "y", "f", ["a"]), ("make", "z", "g", ["a"]), ("read", "r", "c"),
            ("read", "s", "d"), ("if", [("make", "u", "f", ["a"])], [("make", "v", "f", ["a"])], []), ("check", "x"), ("check", "x"),
        ])
        self.assertEqual(pairs(one)[:2], [((0,), (1,)), ((0,), (5, 0, 0))])
        for pair in (
            ((1,), (0,)), ((0,), (0,)), ((0,), (2,)), ((3,), (4,)), ((5, 0, 0), (5, 1, 0)), ((6,), (7,)), ((5,), (5,)),
            ((0,), (9,)), [(0,), (1,)], ((0,), [1]), ((0,), (True,)), ((False,), (1,)), ((0,), (1,), ()), ((0,),), ((0,), (1, 0)),
            (0, 1), ("x", "y"), ((0,), None), (one, one), one, True,
        ):
            self.assertIs(self.fails(NoPair, joined, one, pair, pair=pair).pair, pair)
        for value in any_values():
            for pair in (value, (value, (1,)), ((0,), value), ((0,), (1,), value)):
                self.assertIs(self.fails(NoPair, joined, one, pair, pair=pair).pair, pair)


class JoinableTest(Case):
    def test_drawn_programs(self):
        told = {}
        for seed in range(80):
            one = drawn(seed, 14)
            found = []
            for pair in pairs(one):
                truth = are_alike(one, joined_plainly(one, pair), most=20000)
                found += [pair] if truth else []
                kind = one.row_at(pair[0])[0]
                told[kind, truth] = told.get((kind, truth), 0) + 1
            for _ in range(2):
                answer = joinable(one, most=20000)
                self.assertEqual(answer, found)
                answer.append(1)
        self.assertEqual(set(told), {("make", True), ("read", True), ("read", False)})
        self.assertGreater(min(told.values()), 2)

    def test_reads_with_a_write_between(self):
        reads = [("read", "r", "c"), ("read", "s", "c")]
        see = ("write", "d", ["r", "s"])
        self.assertEqual(joinable(Program(["a"], [*reads, see])), [((0,), (1,))])
        self.assertEqual(joinable(Program(["a"], [reads[0], ("write", "c", []), reads[1], see])), [])
        self.assertEqual(joinable(Program(["a"], [reads[0], ("write", "c", []), reads[1]])), [((0,), (2,))])
        loop = [("loop", reads[:1], [reads[1], see])]
        self.assertEqual(joinable(Program(["a"], loop)), [((0, 0, 0), (0, 1, 0))])
        writing = [("loop", reads[:1], [reads[1], see, ("write", "c", [])])]
        self.assertEqual(joinable(Program(["a"], writing)), [])

    def test_too_many(self):
        stands = many_stands()[0]
        loops = stands.rows()[0]
        once = [*loops[1], ("read", "zz", "c")]
        one = Program(["a"], [("loop", once, loops[2])])
        self.assertIn(((0, 0, 0), (0, 0, 2)), pairs(one))
        with self.assertRaises(TooMany) as caught:
            joinable(one)
        self.assertEqual(caught.exception.most, 2000)
        self.assertIn(((0, 0, 0), (0, 0, 2)), joinable(one, most=20000))


class SpareTest(Case):
    def test_drawn_programs(self):
        told = {True: 0, False: 0}
        for seed in range(80):
            one = Dense(seed).dense(12)
            one = one if seed % 2 else Dense(seed).near_pair(12)[0]
            for address in checks_of(one)[:2]:
                row = one.row_at(address)
                later = [gap for gap in one.gaps() if gap > address]
                put = or_error(lambda: one.put(later[seed % len(later)], row)) if seed % 3 else None
                one = put if isinstance(put, Program) else one
            found = []
            for address in checks_of(one):
                sheet = Sheet(one)
                sheet.take(address)
                truth = are_alike(one, sheet.program(), most=20000)
                told[truth] += 1
                found += [address] if truth else []
            for _ in range(2):
                answer = spare(one, most=20000)
                self.assertEqual(answer, found)
                answer.append(1)
        self.assertGreater(min(told.values()), 30)

    def test_by_name(self):
        self.assertEqual(spare(program(CHECK_X, LOG, CHECK_X)), [(4,)])
        self.assertEqual(spare(program(CHECK_X, CHECK_X)), [(2,), (3,)])
        self.assertEqual(spare(program(CHECK_X, CHECK_Y, OUT)), [])
        self.assertEqual(spare(program(("check", "a"), ("read", "r", "c"), ("check", "r"))), [(2,), (4,)])
        self.assertEqual(spare(program(("if", [CHECK_X], [CHECK_X], []), CHECK_X)), [(2, 0, 0), (2, 1, 0), (3,)])
        self.assertEqual(spare(program(CHECK_X, ("if", [CHECK_X], [LOG, CHECK_X], []))), [(3, 0, 0), (3, 1, 1)])
        self.assertEqual(spare(program(("if", [CHECK_X], [], []), CHECK_X)), [(2, 0, 0)])
        self.assertEqual(spare(program(("loop", [CHECK_X], [CHECK_X, LOG]))), [(2, 0, 0), (2, 1, 0)])
        self.assertEqual(spare(program(("if", [LEAVE], [], []), CHECK_X, LEAVE)), [])
        self.assertEqual(spare(program(("if", [LEAVE], [LEAVE], []), CHECK_X)), [(3,)])
        self.assertEqual(spare(Program([], [])), [])

    def test_too_many(self):
        elder = many_stands()[0]
        address = checks_of(elder)[-1]
        one = elder.put(address, elder.row_at(address))
        with self.assertRaises(TooMany) as caught:
            spare(one)
        self.assertEqual(caught.exception.most, 2000)
        self.assertEqual(spare(one, most=20000), [address, checks_of(one)[-1]])
        more = Program(["a"], full_of_things()[0].rows() + [full_of_things()[2].rows()[-1]])
        with self.assertRaises(TooMany) as caught:
            spare(more, most=20000)
        self.assertEqual(caught.exception.most, 300)


if __name__ == "__main__":
    unittest.main()
