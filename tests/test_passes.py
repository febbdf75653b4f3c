"""Points 71, 10 and 13: rows that change places with a neighbour, and first rows that leave their list."""

import itertools
import unittest

from movedchecks.alike import are_alike, parting
from movedchecks.errors import NoRow, NotLast, Unseen
from movedchecks.passes import barrier, can_pass, exchanged, risen
from movedchecks.programs import Program
from movedchecks.rows import frozen, makes, uses
from movedchecks.skeletons import is_whole
from tests import model
from tests.cases import CHECK_X, CHECK_Y, IF, LEAVE, LOG, OUT, Case, program
from tests.makers import Dense
from tests.sheets import Sheet, no_plain_addresses, or_error, plain_addresses
from tests.values import any_values

ROWS = [
    ("make", "p", "f", []), ("make", "p", "f", ["a"]), ("make", "q", "f", ["a", "b"]), ("make", "q", "g", ("x", "x")),
    ("make", "w", "h", ["z"]), ("read", "r", "c"), ("read", "s", "c"), ("read", "s", "d"), ("check", "x"), ("check", "y"),
    ("check", "a"), ("write", "c", []), ("write", "c", ["a"]), ("write", "c", ("a",)), ("write", "c", ["b"]),
    ("write", "c", ["a", "a"]), ("write", "c", ["a", "b"]), ("write", "c", ["b", "a"]), ("write", "d", ["a", "b"]),
    ("write", "c", ["x", "y", "z"]), ("write", "c", ["x", "y", "a"]), ("write", "c", ("u", "v", "t")),
    ("write", "c", ["x", "v", "t"]), ("write", "d", ["x"]), ("write", "d", ["y", "u", "z"]),
    ("write", "c", ["y", "x"]), ("write", "d", []), ("check", "z"), ("write", "c", ["x", "x", "x"]),
]


def are_apart(first, second):
    """Whether neither makes a name that the other one uses."""
    return not {*makes(first)} & {*uses(second)} and not {*makes(second)} & {*uses(first)}


PAIRS = [both for both in itertools.product(ROWS, ROWS) if are_apart(*both)]


def passes(first, second):
    """The words of the point, one behind another."""
    kinds = {first[0], second[0]}
    if kinds == {"check"} and first[1] != second[1]:
        return False
    if kinds == {"check", "write"}:
        return False
    if kinds == {"read", "write"}:
        return first[2 if first[0] == "read" else 1] != second[2 if second[0] == "read" else 1]
    return kinds != {"write"} or first[1] != second[1] or list(first[2]) == list(second[2])


def fewest(first, second):
    """How many rows two programs have at least that are parted by the exchange."""
    kinds = sorted([first[0], second[0]])
    if kinds == ["check", "check"]:
        return 4
    return 3 if kinds != ["write", "write"] or len({*first[2], *second[2]}) > 4 else 2


def neighbours(one, other):
    """The indexes at which two lists of rows are unlike."""
    assert len(one) == len(other)
    return [index for index, both in enumerate(zip(one, other)) if both[0] != both[1]]


class CanPassTest(Case):
    def test_all_kinds(self):
        for first, second in PAIRS:
            for _ in range(2):
                self.assertIs(can_pass(first, second), passes(first, second), (first, second))
                self.assertIs(can_pass(frozen(first), second), passes(first, second))
        self.assertGreater(len(PAIRS), 600)

    def test_by_name(self):
        for first, second, truth in (
            (CHECK_X, CHECK_X, True), (CHECK_X, CHECK_Y, False), (CHECK_X, LOG, False), (LOG, LOG, True), (LOG, OUT, True),
            (LOG, ("write", "log", ("a",)), True), (LOG, ("write", "log", []), False), (("read", "r", "log"), LOG, False),
            (("read", "r", "disk"), LOG, True), (("read", "r", "log"), ("read", "s", "log"), True),
            (("make", "p", "f", []), LOG, True), (("make", "p", "f", []), CHECK_X, True), (("read", "r", "c"), CHECK_X, True),
            (("make", "p", "f", []), ("make", "q", "f", []), True), (("write", "log", ["a", "b"]), ("write", "log", ["b", "a"]), False),
        ):
            for both in ((first, second), (second, first)):
                self.assertIs(can_pass(*both), truth)

    def test_exchanged_in_drawn_programs(self):
        told = {True: 0, False: 0}
        for seed in range(120):
            one = Dense(seed).dense(13)
            for address in plain_addresses(one):
                behind = address[:-1] + (address[-1] + 1,)
                both = [one.row_at(place) for place in (address, behind) if place in plain_addresses(one)]
                if len(both) < 2 or not are_apart(*both):
                    continue
                truth = are_alike(one, exchanged(one, address))
                told[truth] += 1
                if can_pass(*both):
                    self.assertIs(truth, True)
        self.assertGreater(min(told.values()), 30)


class BarrierTest(Case):
    def test_just_where_rows_cannot_pass(self):
        for first, second in PAIRS:
            found = barrier(first, second)
            self.assertIs(found is None, can_pass(first, second))
            if found is not None:
                self.told(first, second, found)

    def told(self, first, second, found):
        one, other, choices, bad = found
        self.assertEqual([type(part) for part in found], [Program, Program, list, list])
        self.assertEqual(one.inputs, other.inputs)
        index = [index for index, row in enumerate(one.rows()) if row == frozen(first)]
        places = neighbours(one.rows(), other.rows())
        self.assertEqual(places, [places[0], places[0] + 1])
        self.assertIn(places[0], index)
        self.assertEqual(one.rows()[places[0]:places[0] + 2], [frozen(first), frozen(second)])
        self.assertEqual(other.rows()[places[0]:places[0] + 2], [frozen(second), frozen(first)])
        self.assertTrue(is_whole(one, choices))
        self.assertEqual(bad, sorted(bad))
        self.assertLessEqual(len(bad), 2)
        seen = [model.Machine(part, choices, bad).seen() for part in (one, other)]
        self.assertNotEqual(*seen)
        self.assertIs(are_alike(one, other), False)
        self.assertEqual([len(one), len(other)], [fewest(first, second)] * 2)
        self.assertLessEqual(len(one.used_channels()), 2)
        kept = (list(choices), list(bad))
        choices.append(1), bad.append(1)
        again = barrier(first, second)
        self.assertTrue(again[0] == one and again[1] == other)
        self.assertEqual(again[2:], kept)

    def test_lists_that_are_passed_may_change(self):
        first, second = ("write", "c", ["a"]), ("write", "c", ["b"])
        found = barrier(first, second)
        first[2].append("b"), second[2].clear()
        self.assertEqual([found[0].rows(), found[1].rows()], [
            [("write", "c", ("a",)), ("write", "c", ("b",))], [("write", "c", ("b",)), ("write", "c", ("a",))],
        ])

    def test_six_names_and_four_inputs(self):
        for first, second in (
            (("write", "c", list("abc")), ("write", "c", list("def"))), (("write", "c", list("fed")), ("write", "c", list("cba"))),
            (("write", "c", list("ab")), ("write", "c", list("cde"))), (("write", "c", list("abc")), ("write", "c", list("ade"))),
            (("write", "c", list("abc")), ("write", "c", list("abd"))), (("write", "c", list("aab")), ("write", "c", list("aac"))),
            (("write", "c", list("abc")), ("write", "c", list("de"))), (("write", "c", []), ("write", "c", list("abc"))),
        ):
            for both in ((first, second), (second, first)):
                self.told(*both, barrier(*both))

    def fewer(self, first, second, many):
        """All pairs of programs with so many rows beside the two that differ by an exchange of these two."""
        names = sorted({*uses(first), *uses(second), *makes(first), *makes(second)})
        channels = sorted({row[1] if row[0] == "write" else row[2] for row in (first, second) if row[0] in ("read", "write")})
        extra = [("check", name) for name in names] + [("write", name, [names[0], other]) for name in channels for other in names]
        extra += [("write", name, [other]) for name in channels for other in names] + [("leave",), ("if", [], [], [])]
        for name in names:
            extra += [("make", name, "f", []), ("make", name, "g", names[:1]), ("read", name, "c")]
            extra += [("if", [], [], [(name, one, other)]) for one in names for other in names]
        both = [[first, second], [second, first]]
        for rows in itertools.product(extra, repeat=many):
            for place in range(many + 1):
                yield [[*rows[:place], *part, *rows[place:]] for part in both]
            for at in range(many):
                around = [("if", None, [], []), ("if", [], None, []), ("loop", None, []), ("loop", [], None)]
                for row in around:
                    rest = [rows[k] for k in range(many) if k != at]
                    for place in range(many):
                        for inner in range(len(rest[place:]) + 1):
                            behind = rest[place:]
                            yield [[*rest[:place], self.filled(row, [*behind[:inner], *part, *behind[inner:]])] for part in both]

    def filled(self, row, rows):
        return tuple([rows if part is None else part for part in row])

    def test_no_programs_have_fewer_rows(self):
        tried = 0
        for first, second in (
            (CHECK_X, CHECK_Y), (CHECK_X, LOG), (CHECK_X, ("write", "c", ["x"])), (("read", "r", "c"), ("write", "c", [])),
            (("read", "r", "c"), ("write", "c", ["a"])), (("write", "c", list("abc")), ("write", "c", list("adf"))),
        ):
            names = sorted({*uses(first), *uses(second)})
            most = barrier(first, second)[0]
            for many in range(len(most) - 2):
                for both in self.fewer(first, second, many):
                    made = {name for _, row in model.all_rows(both[0]) for name in model.made_by(row)}
                    inputs = [name for name in names if name not in made]
                    programs = [or_error(lambda: Program(inputs, rows)) for rows in both]
                    if all(isinstance(part, Program) for part in programs):
                        tried += 1
                        self.assertIs(are_alike(*programs), True, both)
        self.assertGreater(tried, 80)


class ExchangedTest(Case):
    def test_each_two_neighbours(self):
        told = {}
        for seed in range(40):
            one = model.Maker(seed).program()
            for address in plain_addresses(one):
                behind, gap = address[:-1] + (address[-1] + 1,), address[:-1] + (address[-1] + 2,)
                if behind not in plain_addresses(one):
                    for _ in range(2):
                        self.fails(NoRow, exchanged, one, address, address=address)
                    continue
                found = or_error(lambda: exchanged(one, address))
                self.assertEqual(found, or_error(lambda: Sheet(one).move(address, gap).program()))
                self.assertEqual(found, or_error(lambda: one.moved(address, gap)))
                told[type(found)] = told.get(type(found), 0) + 1
        self.assertEqual(set(told), {Program, tuple})

    def test_errors(self):
        one = program(CHECK_X, LEAVE)
        self.fails(NoRow, exchanged, one, (2,), address=(2,))
        self.fails(Unseen, exchanged, Program([], [("make", "x", "f", []), CHECK_X]), (0,), address=(0,), name="x")
        for part in (program(CHECK_X, IF), program(("if", [CHECK_X], [CHECK_Y], []), LOG), program(("loop", [LOG], [LOG]))):
            values = no_plain_addresses(part) + [v for v in any_values() if v not in plain_addresses(part)]
            for value in values:
                self.assertIs(self.fails(NoRow, exchanged, part, value, address=value).address, value)
        self.fails(NoRow, exchanged, program(CHECK_X, IF), (2,), address=(2,))


def risen_plainly(one, address):
    """The words of the point, case by case, put together by a sheet; None for all other rows."""
    row, sheet = one.row_at(address), Sheet(one)
    if len(address) == 1 or address[-1] != 0:
        return None
    owner, number = address[:-2], address[-2]
    above = one.row_at(owner)
    if above[0] == "if" and row[0] in ("make", "read"):
        return sheet.move(address, owner).program()
    if above[0] == "if":
        other = above[2 if number == 0 else 1]
        if not other or other[0] != row:
            return None
        sheet.take(owner + (1 - number, 0))
        return sheet.move(address, owner).program()
    if number == 1:
        return sheet.move(address, owner + (0, len(above[1]))).program() if row[0] in ("make", "check") else None
    return sheet.move(address, owner).program() if row[0] in ("make", "read") else None


class RisenTest(Case):
    def drawn(self, seed):
        """A drawn program in which lists often begin with rows that can leave them."""
        maker = Dense(seed)
        one = maker.dense(12)
        for address in one.addresses():
            row = one.row_at(address) if address in one.addresses() else LEAVE
            if row[0] in ("if", "loop"):
                names = one.in_sight(address)
                new = maker.random.choice([("check", maker.random.choice(names)), ("write", "c", names[:2]), None])
                for number in maker.random.choice(((0, 1), (0, 1), (0,), (1,))) if new else ():
                    one = one.put(address + (number, 0), new)
        return one

    def test_each_row(self):
        told = {}
        for seed in range(150):
            one = self.drawn(seed)
            for address in plain_addresses(one):
                plain = or_error(lambda: risen_plainly(one, address))
                found = or_error(lambda: risen(one, address))
                again = or_error(lambda: risen(one, address))
                self.assertEqual(found, again)
                if plain is None:
                    self.assertEqual(found, (NoRow, {"address": address}))
                    continue
                self.assertEqual(found, plain)
                above = one.row_at(address[:-2])[0] + str(address[-2])
                key = (above, one.row_at(address)[0], type(found))
                told[key] = told.get(key, 0) + 1
                if isinstance(found, Program) and len(one) <= 16:
                    self.assertIs(are_alike(one, found, most=20000), True)
        cases = {(part, kind, Program) for part in ("if0", "if1") for kind in ("make", "read", "check", "write")}
        cases |= {("loop1", "make", Program), ("loop1", "check", Program), ("loop0", "make", Program), ("loop0", "read", Program)}
        self.assertEqual({key for key in told if key[2] is Program}, cases)

    def test_by_cases(self):
        made, read = ("make", "p", "f", ("a",)), ("read", "r", "c")
        one = program(("if", [made, LOG], [read, LEAVE], [("j", "p", "r")]))
        self.assertEqual(risen(one, (2, 0, 0)).rows()[2:], [made, ("if", (frozen(LOG),), (read, LEAVE), (("j", "p", "r"),))])
        self.assertEqual(risen(one, (2, 1, 0)).rows()[2:], [read, ("if", (made, frozen(LOG)), (LEAVE,), (("j", "p", "r"),))])
        both = program(("if", [CHECK_X, CHECK_Y], [CHECK_X], []))
        for number in (0, 1):
            self.assertEqual(risen(both, (2, number, 0)).rows()[2:], [CHECK_X, ("if", (CHECK_Y,), (), ())])
        loop = program(("loop", [made, CHECK_Y], [CHECK_X, LOG]))
        self.assertEqual(risen(loop, (2, 1, 0)).rows()[2:], [("loop", (made, CHECK_Y, CHECK_X), (frozen(LOG),))])
        self.assertEqual(risen(loop, (2, 0, 0)).rows()[2:], [made, ("loop", (CHECK_Y,), (CHECK_X, frozen(LOG)))])

    def test_other_rows(self):
        read = ("read", "r", "c")
        for part, address in (
            (program(CHECK_X), (2,)), (program(CHECK_X), (0,)), (program(("if", [CHECK_X], [CHECK_Y], [])), (2, 0, 0)),
            (program(("if", [CHECK_X], [], [])), (2, 0, 0)), (program(("if", [LOG], [OUT], [])), (2, 1, 0)),
            (program(("if", [CHECK_Y, CHECK_X], [CHECK_X], [])), (2, 1, 0)), (program(("loop", [CHECK_X], [])), (2, 0, 0)),
            (program(("if", [LOG], [("write", "log", ["a", "a"])], [])), (2, 0, 0)), (program(("loop", [LOG], [])), (2, 0, 0)),
            (program(("loop", [], [LOG])), (2, 1, 0)), (program(("loop", [], [read])), (2, 1, 0)),
            (program(("loop", [], [CHECK_X, CHECK_Y])), (2, 1, 1)), (program(("loop", [CHECK_X], [CHECK_X])), (2, 0, 0)),
            (program(("if", [CHECK_X, ("make", "p", "f", [])], [CHECK_X], [])), (2, 0, 1)), (program(("loop", [], [LEAVE])), (2, 1, 0)),
        ):
            self.fails(NoRow, risen, part, address, address=address)

    def test_no_rows(self):
        one = program(("if", [LEAVE], [IF], []), ("loop", [("check", "a")], [LEAVE]))
        for value in no_plain_addresses(one) + [value for value in any_values() if value not in plain_addresses(one)]:
            self.assertIs(self.fails(NoRow, risen, one, value, address=value).address, value)

    def test_once_that_ends_with_a_leave(self):
        for row in (CHECK_X, ("make", "p", "f", [])):
            one = program(("loop", [LEAVE], [row]))
            self.fails(NotLast, risen, one, (2, 1, 0), address=(2, 0, 0))
            two = program(("loop", [CHECK_Y, LEAVE], [row, LOG]))
            self.fails(NotLast, risen, two, (2, 1, 0), address=(2, 0, 1))
            self.fails(NoRow, risen, two, (2, 1, 1), address=(2, 1, 1))
        early = program(("loop", [("make", "p", "f", []), LEAVE], []))
        self.assertEqual(risen(early, (2, 0, 0)).rows()[2:], [("make", "p", "f", ()), ("loop", (LEAVE,), ())])

    def test_rounds(self):
        """Point 13: a check that is the first row of a body goes to the end of once, in every program."""
        told = 0
        for seed in range(80):
            one = self.drawn(seed)
            for address in plain_addresses(one):
                if one.row_at(address)[0] == "check" and len(address) > 1 and address[-2:] == (1, 0):
                    above = one.row_at(address[:-2])
                    if above[0] == "loop" and above[1][-1:] != (LEAVE,) and len(one) <= 16:
                        self.assertIs(are_alike(one, risen(one, address), most=20000), True)
                        told += 1
        self.assertGreater(told, 20)


class EveryProgramTest(Case):
    """Point 10: what cannot go in every program is parted in one."""

    def test_rows_that_leave_lists(self):
        read, made = ("read", "r", "c"), ("make", "p", "f", [])
        write, see = ("write", "c", ["a"]), ("write", "c", ["r"])
        for rows, address, gap, truth in (
            ([("if", [CHECK_X], [], [])], (2, 0, 0), (2,), False),
            ([("if", [write], [], [])], (2, 0, 0), (2,), False), ([("loop", [CHECK_X], [])], (2, 0, 0), (2,), False),
            ([("loop", [write], [])], (2, 0, 0), (2,), False), ([("loop", [], [write])], (2, 1, 0), (2, 0, 0), False),
            ([("loop", [], [read, see])], (2, 1, 0), (2, 0, 0), False), ([("loop", [made], [])], (2, 0, 0), (2,), True),
            ([("if", [read, see], [], [])], (2, 0, 0), (2,), True), ([("loop", [], [made, ("check", "p")])], (2, 1, 0), (2, 0, 0), True),
        ):
            one = program(*rows)
            other = one.moved(address, gap)
            self.assertIs(are_alike(one, other), truth)
            self.assertIs(parting(one, other) is None, truth)
            self.assertIs(isinstance(or_error(lambda: risen(one, address)), Program), truth)


if __name__ == "__main__":
    unittest.main()
