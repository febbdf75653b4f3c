"""Point 53: stands by their form."""

import random
import unittest

from movedchecks.errors import NoLags, Unlike
from movedchecks.followed import stands
from movedchecks.forms import is_stand
from movedchecks.lags import lags
from movedchecks.programs import Program
from movedchecks.skeletons import in_sight_at
from movedchecks.stands import things
from tests import telling
from tests.cases import Case, altered
from tests.makers import Dense
from tests.values import any_values

A, LEAVE = ("in", "a"), ("leave",)
LOG, OUT = ("write", "log", ["a"]), ("write", "out", ["a"])


def made(word, *parts):
    return ("made", word, parts)


def mark(channel, index=0):
    return ("mark", channel, index)


X = made("f", A)


def pair():
    """In the loop one has written the log once more than other, and out once less."""
    rows = [("read", "r", "log"), ("make", "x", "f", ["a"])]
    one = Program(["a"], [LOG, LOG, *rows, ("loop", [("make", "y", "g", ["x"])], [("if", [], [LEAVE], [])])])
    other = Program(["a"], [LOG, OUT, *rows, ("loop", [("make", "z", "g", ["x"])], [("if", [], [LEAVE], [])])])
    return (one.put((5,), OUT).put((4, 1, 0, 1, 0), OUT), other.put((5,), LOG).put((4, 1, 0, 1, 0), LOG))


class IsStandTest(Case):
    def told(self, thing, value, truth):
        one, other = pair()
        for _ in range(2):
            self.assertIs(is_stand(one, other, thing, value), truth, value)

    def test_forks(self):
        check = ("check", X)
        for fork in lags(*pair()):
            self.told(check, (fork, (), (), (), ()), True)
        for fork in (("if", (0,)), ("if", (0, 0, 0)), ("leave", (0,)), ("again", (1,)), ("first", [0]), ["first", (0,)], (),
                     ("first", (False,)), ("first", (0,), ()), "first", None, ("end", (0,)), ("first", (0, True))):
            self.told(check, (fork, (), (), (), ()), False)

    def test_moments(self):
        at = ("again", (0,))
        log, out = ("check", made("f", mark("log"))), ("check", made("f", mark("out")))
        none, two = ("check", made("f", mark("none"))), ("check", made("f", mark("log"), mark("log", 1)))
        for thing, right in ((log, ("-1", "0")), (out, ("0", "1")), (none, ("0",))):
            for moment in ("later", "gone", "-2", "-1", "-0", "0", "00", "+0", "1", "+1", "01", "2", " 0", "", "Later"):
                self.told(thing, (at, (moment,), (), (), ()), moment in right + ("later", "gone"))
            for moments in ((), ("0", "0"), ["0"], "0", ("0", "later"), (0,), (False,), (None,), (("0",),), (["0"],), ({},)):
                self.told(thing, (at, moments, (), (), ()), False)
        for moments in (("later", "later"), ("gone", "gone"), ("gone", "later"), ("0", "-1"), ("-1", "0"), ("0", "later")):
            self.told(two, (at, moments, (), (), ()), True)
        for moments in (("0", "0"), ("-1", "-1"), ("0",), ("0", "1"), ("0", "-1", "later")):
            self.told(two, (at, moments, (), (), ()), False)
        self.told(("check", made("f", mark("log"), mark("out"))), (at, ("0", "0"), (), (), ()), True)
        for fork in (("start", ()), ("end", ())):
            for moment in ("-1", "0", "1", "gone", "later"):
                self.told(log, (fork, (moment,), (), (), ()), moment not in ("-1", "1"))

    def test_holds(self):
        check, at = ("check", made("g", X, mark("log"))), ("again", (0,))
        parts = [A, X, mark("log"), check[1]]
        for part in parts:
            for holds, others in (
                ([("x", part)], []), ([], [("x", part)]), ([("r", part), ("x", A), ("y", part)], [("r", A), ("z", part)]),
            ):
                self.told(check, (at, ("0",), tuple(holds), tuple(others), ()), True)
        for name, part in (("a", A), ("z", X), ("q", X), ("", X), ("x", ("in", "b")), ("x", made("f")), ("x", mark("log", 1)),
                           ("x", ["in", "a"]), ("x", ("mark", "log", False)), ("x", ("made", "f", [A])), ("x", None),
                           (None, A), (["x"], A), (0, A), ("x", mark("out")), ("x", ("seen", "log"))):
            self.told(check, (at, ("0",), ((name, part),), (), ()), False)
        self.told(check, (at, ("0",), (), (("y", X),), ()), False)
        for holds in ((("x", A), ("r", A)), (("x", A), ("x", A)), (("x", A), ("x", X)), [("x", A)], (["x", A],), ("x", A),
                      (("x", A, A),), (("x",),), {"x": A}, None, ((), ("x", A))):
            self.told(check, (at, ("0",), holds, (), ()), False)
            self.told(check, (at, ("0",), (), holds, ()), False)
        for fork, name, truth in ((("first", (0,)), "y", False), (("first", (0,)), "x", True), (("start", ()), "x", False),
                                  (("if", (0, 1, 0)), "y", True), (("end", ()), "y", False), (("end", ()), "r", True)):
            self.told(check, (fork, ("0",), ((name, X),), (), ()), truth)

    def test_seen(self):
        at = ("end", ())
        owed = [(), (("log", 1),), (("out", 12),), (("log", 3), ("out", 10 ** 30))]
        wrong = [(("log", 0),), (("log", -1),), (("log", True),), (("log", "1"),), (("none", 1),), (("out", 1), ("log", 1)),
                 (("log", 1), ("log", 2)), [("log", 1)], (["log", 1],), ("log", 1), (("log",),), None, (None,), {}, "",
                 (("log", 1, 1),), ((1, "log"),), (("", 1),), ((["log"], 1),), 1]
        for side in (0, 1, 2, -1, True, False, None, "0", ()):
            whole = side in (0, 1) and not isinstance(side, bool)
            for many in owed + wrong:
                right = whole and any(many is part for part in owed)
                self.told(("check", X), (at, (), (), (), (side, many)), right)
                for index in (0, 1, 2, True, None):
                    self.told(("order", X, made("g")), (at, (), (), (), (side, index, many)), right and index is not True and
                              index in (0, 1))
            for many in (1, 3, 10 ** 30, 0, -1, True, None, "1", (), (("log", 1),)):
                for truth in (True, False, 0, 1, None, "", ()):
                    right = whole and truth in (True, False) and isinstance(truth, bool) and many in (1, 3, 10 ** 30)
                    self.told(("write", "log", 0, A), (at, (), (), (), (side, many, truth)), right and many is not True)
        for thing, seens in ((("check", X), [(0,), (0, (), ()), (0, 0, ()), (0, 1, True), [0, ()], [], "", None, ((),)]),
                             (("order", X, made("g")), [(0,), (0, ()), (0, 0, (), ()), [0, 0, ()], (0, 1, True), []]),
                             (("write", "log", 0, A), [(0,), (0, 1), (0, 1, True, True), [0, 1, True], (0, 0, ()), []])):
            for seen in seens:
                self.told(thing, (at, (), (), (), seen), False)
            for fork in lags(*pair()):
                self.told(thing, (fork, (), (), (), ()), True)
                self.told(thing, (fork, (), (), (), {"check": (1, ()), "order": (1, 1, ()), "write": (1, 1, False)}[thing[0]]), True)

    def test_any_values(self):
        right = (("end", ()), (), (), (), ())
        for value in any_values():
            self.told(("check", X), value, False)
            for place in range(5):
                told = right[:place] + (value,) + right[place + 1:]
                self.told(("check", X), told, place > 0 and value == () and isinstance(value, tuple))
        for value in (list(right), right[:4], right + ((),), (right,), {0: right}, "end"):
            self.told(("check", X), value, False)

    def test_errors(self):
        one, other = pair()
        for value in (None, (("end", ()), (), (), (), ())):
            for unlike in (Program(["a"], []), Program(["b"], [("loop", [], [])]), one.out((4,))):
                for both in ((one, unlike), (unlike, one)):
                    self.fails(Unlike, is_stand, *both, ("check", X), value)
            for both in ((one, one.put((0,), LOG)), (one.put((0,), LOG), one)):
                self.fails(NoLags, is_stand, *both, ("check", X), value)


def has_form(one, other, thing, value, table):
    """The form of a stand, told once more; values are told from one another by how they are written."""
    try:
        fork, moments, holds, others, seen = value
        assert type(value) is tuple and repr(fork) in [repr(place) for place in table]
        assert type(moments) is tuple and len(moments) == len(telling.marks_of(thing))
        told = []
        for part, moment in zip(telling.marks_of(thing), moments):
            lag = table[fork].get(part[1], 0)
            if moment not in ("later", "gone"):
                assert moment in [str(number) for number in range(-20, 20) if min(0, -lag) <= number <= max(0, -lag)]
                told.append((part[1], moment))
        assert len(told) == len(set(told))
        for program, held in ((one, holds), (other, others)):
            names = [name for name in in_sight_at(program, fork) if name not in program.inputs]
            assert type(held) is tuple and all(type(row) is tuple for row in held)
            assert [name for name, _ in held] == sorted({name for name, _ in held} & set(names))
            assert all(repr(part) in [repr(whole) for whole in telling.parts_of(thing)] for _, part in held)
        assert type(seen) is tuple
        if seen:
            assert type(seen[0]) is int and 0 <= seen[0] <= 1 and len(seen) == (2 if thing[0] == "check" else 3)
            if thing[0] == "write":
                assert type(seen[1]) is int and seen[1] > 0 and type(seen[2]) is bool
                return True
            if thing[0] == "order":
                assert type(seen[1]) is int and 0 <= seen[1] <= 1
            assert type(seen[-1]) is tuple and all(type(row) is tuple for row in seen[-1])
            channels = [channel for channel, _ in seen[-1]]
            assert channels == sorted(set(channels)) and set(channels) <= set(table[fork])
            assert all(type(many) is int and many > 0 for _, many in seen[-1])
        return True
    except (AssertionError, TypeError, ValueError):
        return False


class RandomFormsTest(unittest.TestCase):
    def test_told_stands_and_altered_ones(self):
        truths = {True: 0, False: 0}
        for seed in range(70):
            chance, maker = random.Random(seed), Dense(seed)
            one, other = maker.pair(13)
            table = lags(one, other)
            for thing in telling.some_things(chance, one, other, 3) if table is not None else []:
                found = stands(one, other, thing)
                for value in found:
                    self.assertIs(is_stand(one, other, thing, value), True)
                given = [telling.some_stand(chance, one, other, thing, table) for _ in range(6)]
                for value in chance.sample(found, min(6, len(found))) + given:
                    self.assertIs(is_stand(one, other, thing, value), True)
                    for _ in range(6):
                        told = altered(chance, value)
                        truth = has_form(one, other, thing, told, table)
                        truths[truth] += 1
                        self.assertIs(is_stand(one, other, thing, told), truth, (thing, told))
        self.assertGreater(min(truths.values()), 100)

    def test_stands_of_other_things(self):
        for seed in range(30):
            chance, maker = random.Random(seed), Dense(seed)
            one, other = maker.pair(13)
            table = lags(one, other)
            if table is not None:
                found = things(one, other)
                for thing in found[:4]:
                    value = telling.some_stand(chance, one, other, thing, table)
                    for elder in found[-4:]:
                        self.assertIs(is_stand(one, other, elder, value), has_form(one, other, elder, value, table))


if __name__ == "__main__":
    unittest.main()
