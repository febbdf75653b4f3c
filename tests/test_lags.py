"""Points 41, 6, 11 and 12: how many more writes of a channel one program has done than the other."""

import unittest

from movedchecks.errors import NoLags, Unlike
from movedchecks.lags import greatest_lag, lag_choices, lags
from movedchecks.programs import Program
from movedchecks.skeletons import forks, is_whole
from tests import cases, model

LOG, OUT = ("write", "log", ["a"]), ("write", "out", [])
LEAVE = ("leave",)


def program(*rows):
    return Program(["a", "b"], list(rows))


def choose(yes, no):
    return ("if", yes, no, [])


def final_counts(program, choices):
    machine = model.Machine(program, choices)
    return {channel: len(rows) for channel, rows in machine.writes.items()}, machine.end


class Case(cases.Case):
    def stand(self, one, other, table):
        for sign, first, second in ((1, one, other), (-1, other, one)):
            expected = {fork: {channel: sign * many for channel, many in row.items()} for fork, row in table.items()}
            for _ in range(2):
                told = lags(first, second)
                self.assertEqual(told, expected)
                self.assertEqual(list(told), sorted(told))
                self.assertEqual(list(told), forks(one))
                for row in told.values():
                    self.assertEqual(list(row), sorted(row))
                    row.clear()
                self.assertIs(lag_choices(first, second), None)
                most = max([abs(many) for row in table.values() for many in row.values()], default=0)
                self.assertEqual(greatest_lag(first, second), most)

    def fall(self, one, other):
        for first, second in ((one, other), (other, one)):
            self.assertIs(lags(first, second), None)
            choices = lag_choices(first, second)
            choices.append("more")
            choices = lag_choices(first, second)
            self.assertIsInstance(choices, list)
            self.assertIs(is_whole(one, choices), True)
            mine, end = final_counts(one, choices)
            self.assertIn(end, [("done",), ("left",)])
            self.assertNotEqual(mine, final_counts(other, choices)[0])
            self.assertLessEqual(self.most_rounds(one, choices), 2)
            self.fails(NoLags, greatest_lag, first, second)

    def most_rounds(self, program, choices):
        """The most rounds that a loop goes at once: runs of rounds at its forks from one coming to the next one."""
        machine, rounds, most = model.Machine(program, choices), {}, 0
        for (fork, _), word in zip(machine.forks, choices):
            if fork[0] == "first":
                rounds[fork[1]] = 0
            if word == "round":
                rounds[fork[1]] += 1
                most = max(most, rounds[fork[1]])
        return most


class LagsTest(Case):
    def test_no_forks(self):
        start, end = ("start", ()), ("end", ())
        self.stand(program(), program(("check", "a")), {end: {}, start: {}})
        self.stand(program(LOG, OUT, LOG), program(LOG, LOG, OUT), {
            end: {"log": 0, "out": 0}, start: {"log": 0, "out": 0}})
        self.fall(program(LOG), program())
        self.fall(program(LOG, LOG), program(LOG))
        self.fall(program(LOG, LEAVE), program(OUT, LEAVE))

    def test_into_and_out_of_an_if(self):
        rest = {("end", ()): {"log": 0}, ("start", ()): {"log": 0}}
        one, other = program(choose([LOG], [LOG])), program(LOG, choose([], []))
        self.stand(one, other, {("if", (0,)): {"log": -1}, **rest})
        self.stand(one, program(choose([], []), LOG), {("if", (0,)): {"log": 0}, **rest})
        self.stand(other, program(choose([], []), LOG), {("if", (0,)): {"log": 1}, **rest})
        self.fall(program(choose([LOG], [])), program(choose([], [])))
        self.fall(program(choose([LOG], [])), other)
        self.fall(program(choose([LOG], [OUT])), program(choose([OUT], [LOG])))

    def test_ends_of_both_kinds(self):
        one, other = program(LOG, choose([LEAVE], [])), program(choose([LOG, LEAVE], []), LOG)
        self.stand(one, other, {
            ("end", ()): {"log": 0}, ("if", (0,)): {"log": 1}, ("leave", (0, 0, 0)): {"log": 0},
            ("start", ()): {"log": 0}})
        self.fall(one, program(choose([LEAVE], []), LOG))
        self.fall(one, program(choose([LOG, LEAVE], [])))

    def test_loops(self):
        zero = {"log": 0}
        table = {("again", (0,)): zero, ("end", ()): zero, ("first", (0,)): zero, ("start", ()): zero}
        self.stand(program(("loop", [], [LOG])), program(("loop", [], [LOG])), table)
        one, other = program(("loop", [LOG], []), LOG), program(LOG, ("loop", [LOG], []))
        self.stand(one, other, table | {("first", (0,)): {"log": -1}, ("again", (0,)): {"log": -1}})
        self.fall(program(("loop", [LOG], [])), program(("loop", [], [LOG])))
        self.fall(program(("loop", [LOG], [])), program(("loop", [], [])))
        self.fall(program(LOG, ("loop", [], [])), program(("loop", [LOG], [])))
        one, other = program(LOG, ("loop", [], [LOG])), program(("loop", [], [LOG]), LOG)
        self.stand(one, other, table | {("first", (0,)): {"log": 1}, ("again", (0,)): {"log": 1}})
        one = program(("loop", [LOG], [LOG, LOG]), OUT)
        self.stand(one, program(OUT, ("loop", [LOG], [LOG, LOG])), {
            fork: {"log": 0, "out": -1 if fork[0] in ("first", "again") else 0} for fork in table})

    def test_loops_within_loops(self):
        def nested(*rows, behind=()):
            return program(("loop", [], [("loop", [], list(rows)), *behind]))
        self.fall(nested(LOG), nested())
        self.fall(nested(LOG), nested(behind=[LOG]))
        one, other = nested(OUT, behind=[LOG]), program(("loop", [], [LOG, ("loop", [], [OUT])]))
        told = lags(one, other)
        self.assertEqual({fork: row["log"] for fork, row in told.items()}, {
            ("again", (0,)): 0, ("again", (0, 1, 0)): -1, ("end", ()): 0, ("first", (0,)): 0,
            ("first", (0, 1, 0)): -1, ("start", ()): 0})
        self.assertEqual(greatest_lag(one, other), 1)
        three = program(("loop", [], [("loop", [], [("loop", [], [LOG])])]))
        self.fall(three, program(("loop", [], [("loop", [], [LOG, ("loop", [], [])])])))
        two_rounds = program(("loop", [], [("loop", [LOG], [OUT])]))
        self.fall(two_rounds, program(("loop", [], [("loop", [LOG], [("check", "a")])])).put((0, 1, 0, 0, 0), OUT))

    def test_only_a_second_round_parts(self):
        # With one round both have written as often: only the second round tells once from body.
        one, other = program(("loop", [LOG], [])), program(("loop", [], [LOG]))
        self.assertEqual(lag_choices(one, other), ["round", "round", "out"])
        one, other = program(("loop", [], [one.rows()[0]])), program(("loop", [], [other.rows()[0]]))
        self.fall(one, other)

    def test_lists_that_end_with_a_leave(self):
        leaving = program(("loop", [], [LOG, LEAVE]))
        self.stand(leaving, program(("loop", [LOG], [LEAVE])), {
            ("end", ()): {"log": 0}, ("first", (0,)): {"log": 0}, ("leave", (0, 1, 0)): {"log": 0},
            ("start", ()): {"log": 0}})
        self.fall(leaving, program(LOG, ("loop", [], [LEAVE])))
        self.fall(leaving, program(("loop", [], [LEAVE]), LOG))

    def test_forks_that_no_choices_come_to(self):
        one = program(choose([LEAVE], [LEAVE]), LOG, ("loop", [], [OUT]))
        other = program(choose([LEAVE], [LEAVE]), ("loop", [LOG], []))
        none = {"log": 0, "out": 0}
        self.stand(one, other, {
            ("if", (0,)): none, ("leave", (0, 0, 0)): none, ("leave", (0, 1, 0)): none, ("start", ()): none})
        once = program(("loop", [LEAVE], [LOG]))
        self.stand(once, program(("loop", [LEAVE], [])), {
            ("end", ()): {"log": 0}, ("first", (0,)): {"log": 0}, ("leave", (0, 0, 0)): {"log": 0},
            ("start", ()): {"log": 0}})

    def test_greatest_lag(self):
        for many in range(5):
            one = program(*[LOG] * many, choose([], []))
            other = program(choose([], []), *[LOG] * many)
            self.assertEqual([greatest_lag(one, other), greatest_lag(other, one)], [many, many])
        one, other = program(LOG, OUT, OUT, choose([], [])), program(choose([], []), LOG, OUT, OUT)
        self.assertEqual(greatest_lag(one, other), 2)
        self.assertIs(type(greatest_lag(program(), program())), int)

    def test_unlike(self):
        one = program(LOG)
        for other in (program(LOG, LEAVE), program(choose([], [])), Program(["a"], [LOG]), Program(["a", "c"], [LOG]),
                      program(("loop", [], []), LOG)):
            for call in (lags, lag_choices, greatest_lag):
                for first, second in ((one, other), (other, one)):
                    self.fails(Unlike, call, first, second)
        turned = Program(["b", "a"], [LOG])
        self.assertEqual([lags(one, turned), lag_choices(one, turned), greatest_lag(one, turned)],
                         [{("end", ()): {"log": 0}, ("start", ()): {"log": 0}}, None, 0])


class GuaranteesTest(Case):
    def test_random_programs(self):
        stood = fell = 0
        for seed in range(250):
            maker = model.Maker(seed)
            one = maker.program(most=12)
            other = maker.changed(one, 2)
            table, few = lags(one, other), model.few_rounds(one, 400)
            if table is None:
                fell += 1
                self.fall(one, other)
            else:
                stood += 1
                self.stand(one, other, table)
            for choices in few or []:
                mine, theirs = model.Machine(one, choices), model.Machine(other, choices)
                for (fork, written), (_, others) in zip(mine.forks, theirs.forks):
                    for channel in table[fork] if table is not None else []:
                        self.assertEqual(table[fork][channel], written.get(channel, 0) - others.get(channel, 0))
            if few is not None:
                parted = [choices for choices in few if final_counts(one, choices) != final_counts(other, choices)]
                self.assertIs(table is None, parted != [])
                self.assertIn(lag_choices(one, other), parted or [None])
        self.assertGreater(min(stood, fell), 20)

    def test_all_channels_of_rows(self):
        for seed in range(60):
            one = model.Maker(seed).program()
            channels = sorted({row[1] for _, row in model.all_rows(one.rows()) if row[0] == "write"})
            for row in lags(one, one).values():
                self.assertEqual(row, {channel: 0 for channel in channels})

    def test_further_loops_and_the_same_beginning(self):
        for seed in range(80):
            maker = model.Maker(seed)
            one = maker.program(most=8, depth=3)
            other = maker.near(one)
            if lags(one, other) is None:
                continue
            begun = [Program(p.inputs, [LOG, *p.rows()]) for p in (one, other)]
            self.assertIsNot(lags(*begun), None)
            self.assertEqual(greatest_lag(*begun), greatest_lag(one, other))
            inner = [Program(p.inputs, [("loop", [], p.rows())]) for p in (one, other)]
            self.assertIsNot(lags(*inner), None)

    def test_names(self):
        for seed in range(40):
            maker = model.Maker(seed)
            one = maker.program(most=10)
            other = maker.changed(one, 2)
            names = one.names()
            new = one.renamed({**{name: name for name in one.inputs}, **dict(zip(names, names[1:] + names[:1]))})
            self.assertEqual(lags(new, other), lags(one, other))
            swapped = [Program(p.inputs, [self.swapped(row) for row in p.rows()]) for p in (one, other)]
            self.assertEqual(lags(*swapped), self.swapped_lags(lags(one, other)))

    def swapped(self, row):
        """The row in which the channels c and d have changed places."""
        other = {"c": "d", "d": "c"}
        if row[0] == "read":
            return (*row[:2], other[row[2]])
        if row[0] == "write":
            return ("write", other[row[1]], row[2])
        if row[0] in ("if", "loop"):
            return (row[0], *[[self.swapped(inner) for inner in part] for part in row[1:3]], *row[3:])
        return row

    def swapped_lags(self, table):
        if table is None:
            return None
        return {fork: {{"c": "d", "d": "c"}[name]: many for name, many in row.items()} for fork, row in table.items()}


if __name__ == "__main__":
    unittest.main()
