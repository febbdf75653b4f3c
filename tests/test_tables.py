"""Point 61: tables, which show that two programs are alike."""

import random
import unittest

from movedchecks.alike import are_alike, is_parting, parting
from movedchecks.errors import Parted, TooMany, Unlike
from movedchecks.followed import stands
from movedchecks.lags import lags
from movedchecks.programs import Program
from movedchecks.stands import things
from movedchecks.steps import beginning, behind
from movedchecks.tables import is_lags, is_table, table
from tests import telling
from tests.cases import Case, altered, full_of_things, many_stands
from tests.makers import Dense
from tests.model import words_of
from tests.test_alike import some_pair
from tests.test_forms import has_form
from tests.values import any_values

A = ("in", "a")
LEAVE, IF = ("leave",), ("if", [], [], [])
LOG, OUT = ("write", "log", ["a"]), ("write", "out", ["a"])


def made(word, *parts):
    return ("made", word, parts)


X = made("f", A)


def program(*rows):
    return Program(["a"], [("make", "x", "f", ["a"]), *rows])


def lagging():
    return program(LOG, ("if", [], [], []), ("check", "x"), ("if", [OUT], [OUT], [])), program(
        ("if", [LOG], [LOG], []), ("check", "x"), OUT, IF)


class TableTest(Case):
    def test_alike(self):
        alike = 0
        for seed in range(60):
            one, other = some_pair(seed)
            if are_alike(one, other):
                alike += 1
                for both in ((one, other), (other, one)):
                    for _ in range(2):
                        told = table(*both)
                        self.assertEqual(told, (lags(*both), [(thing, stands(*both, thing)) for thing in things(*both)]))
                        self.assertEqual(list(map(type, told)), [dict, list])
                        self.assertIs(is_table(*both, told), True)
                        for _, found in told[1]:
                            found.append(1)
                        told[0].clear(), told[1].clear()
        self.assertGreater(alike, 15)
        self.assertEqual(table(Program([], []), Program([], [])), ({("end", ()): {}, ("start", ()): {}}, []))

    def test_parted(self):
        parted = 0
        for seed in range(60):
            one, other = some_pair(seed)
            if not are_alike(one, other):
                parted += 1
                found = parting(one, other)
                for _ in range(2):
                    error = self.fails(Parted, table, one, other, road=found[0], bad=found[1])
                    self.assertIs(is_parting(one, other, (error.road, error.bad)), True)
                    error.road.append(1), error.bad.append(1)
        self.assertGreater(parted, 10)

    def test_where_the_lags_do_not_stand(self):
        one, _, more = full_of_things()
        for first, second in ((program(LOG), program()), (one, more.put((0,), LOG))):
            for both in ((first, second), (second, first)):
                road, bad = parting(*both)
                self.fails(Parted, lambda: table(*both, most=1), road=road, bad=[])
                self.assertIs(is_table(*both, ({}, [])), False)
                self.assertIs(is_table(*both, None), False)
                self.assertEqual(bad, [])

    def test_too_many(self):
        """Whichever comes of the first thing."""
        cases = {TooMany: 0, Parted: 0, None: 0}
        for seed in range(60):
            one, other = some_pair(seed)
            if lags(one, other) is None:
                continue
            many = [len(stands(one, other, thing)) for thing in things(one, other)]
            found = None
            for most in sorted({1, *many, *[count - 1 for count in many]} - {0}):
                try:
                    found = parting(one, other, most=most)
                except TooMany:
                    self.fails(TooMany, lambda: table(one, other, most=most), most=most)
                    cases[TooMany] += 1
                    continue
                if found is None:
                    self.assertEqual(table(one, other, most=most), table(one, other))
                    cases[None] += 1
                else:
                    self.fails(Parted, lambda: table(one, other, most=most), road=found[0], bad=found[1])
                    cases[Parted] += 1
        self.assertGreater(min(cases.values()), 15)

    def test_too_many_things_or_stands(self):
        one, other, more = full_of_things()
        self.fails(TooMany, lambda: table(one, more, most=20000), most=300)
        for value in (None, ({}, []), (lags(one, more), [])):
            self.fails(TooMany, is_table, one, more, value, most=300)
        self.fails(TooMany, lambda: table(one, other, most=1), most=1)
        self.assertIs(is_table(one, other, None), False)
        one, _ = many_stands()
        self.fails(TooMany, table, one, one, most=2000)
        told = table(one, one, most=20000)
        self.assertIs(is_table(one, one, told), True)

    def test_unlike(self):
        one = program(LOG, IF)
        for other in (program(LOG), Program(["b"], [IF]), program(LOG, IF, LEAVE)):
            for both in ((one, other), (other, one)):
                self.fails(Unlike, lambda: table(*both, most=1))
                for value in any_values()[:20] + [({}, []), lags(one, one), table(one, one)]:
                    self.fails(Unlike, is_table, *both, value)
                    self.fails(Unlike, is_lags, *both, value)


def is_closed(one, other, thing, found, lag):
    """Whether a list of stands by their form is closed, told once more."""
    if len(found) != len({repr(now) for now in found}) or not all(now in found for now in telling.beginning(thing)):
        return False
    for now in found:
        for word in words_of(now[0]) if now[0] != ("start", ()) else [""]:
            following, truth = telling.behind(one, other, thing, now, word, lag)
            if truth or not all(told in found for told in following):
                return False
    return True


def is_whole_table(one, other, value):
    """What a table is, told once more."""
    told = lags(one, other)
    if told is None or type(value) is not tuple or len(value) != 2 or type(value[1]) is not list:
        return False
    if type(value[0]) is not dict or ordered(value[0]) != ordered(told):
        return False
    for thing, row in zip(things(one, other), value[1]):
        if type(row) is not tuple or len(row) != 2 or repr(row[0]) != repr(thing) or type(row[1]) is not list:
            return False
        if not all(has_form(one, other, thing, now, told) for now in row[1]):
            return False
        if not is_closed(one, other, thing, row[1], told):
            return False
    return len(value[1]) == len(things(one, other))


def ordered(value):
    """How a dict is written, with its keys in the order in which these are written."""
    if type(value) is not dict:
        return repr(value)
    return sorted((repr(key), ordered(value[key])) for key in value)


class IsTableTest(Case):
    def told(self, value, truth):
        for _ in range(2):
            self.assertIs(is_table(*lagging(), value), truth)

    def rows(self):
        return table(*lagging())[1]

    def test_stands_in_another_order(self):
        held, rows = table(*lagging())
        self.told((held, [(thing, found[::-1]) for thing, found in rows]), True)
        self.told((dict(list(held.items())[::-1]), rows), True)
        self.told(({fork: dict(list(row.items())[::-1]) for fork, row in held.items()}, rows), True)

    def test_more_stands_than_need_be(self):
        one, other = lagging()
        held, rows = table(one, other)
        told = 0
        for place, (thing, found) in enumerate(rows):
            for seen in ((), (0, ()), (1, ()), (0, (("log", 1),)), (0, 1, True), (1, 1, False)):
                more = (("end", ()), (), (), (), seen)
                for many in (1, 2):
                    rows = self.rows()
                    rows[place][1].extend([more] * many)
                    truth = many == 1 and more not in found and (seen == () or len(seen) == (3 if thing[0] == "write" else 2))
                    self.told((held, rows), truth)
                    told += truth
        self.assertGreater(told, 5)

    def test_more_stands_of_which_one_is_not_closed(self):
        held, rows = table(*lagging())
        self.assertEqual(rows[0][0], ("check", X))
        for more, truth in (
            ((("if", (0,)), (), (), (), ()), False), ((("if", (1,)), (), (), (), ()), False),
            ((("if", (0,)), (), (("x", X),), (), ()), False), ((("if", (1,)), (), (), (), (0, ())), False),
            ((("if", (0,)), (), (("x", X),), (("x", X),), (0, ())), False),
        ):
            rows = self.rows()
            rows[0][1].append(more)
            self.told((held, rows), truth)
        rows = self.rows()
        rows[0][1].extend([(("if", (1,)), (), (), (), ()), (("end", ()), (), (), (), ())])
        self.told((held, rows), True)

    def test_left_out_and_twice(self):
        held, rows = table(*lagging())
        for place, (thing, found) in enumerate(rows):
            for index in range(len(found)):
                rows = self.rows()
                gone = rows[place][1].pop(index)
                self.told((held, rows), False)
                rows[place][1].extend([gone, gone])
                self.told((held, rows), False)
            for change in (lambda rows: rows.pop(place), lambda rows: rows.append(rows[place]),
                           lambda rows: rows.insert(place, rows[place]),
                           lambda rows: rows.insert((place + 1) % len(rows), rows.pop(place))):
                rows = self.rows()
                change(rows)
                self.told((held, rows), False)

    def test_other_forms(self):
        held, rows = table(*lagging())
        for value in (
            [held, rows], (held, tuple(rows)), (held,), (held, rows, 0), (rows, held), (held, {}), (held, None), (None, rows),
            (held, [list(row) for row in rows]), (held, [(thing, tuple(found)) for thing, found in rows]),
            (held, [(list(thing), found) for thing, found in rows]), (held, [(*row, 0) for row in rows]),
            (held, [row[:1] for row in rows]), (held, [(thing, {now: 1 for now in found}) for thing, found in rows]),
            (held, [(thing, [list(now) for now in found]) for thing, found in rows]), (held, [None for _ in rows]),
            (list(held.items()), rows), ({}, rows), (held, []),
        ):
            self.told(value, False)
        place = [thing for thing, _ in rows].index(("write", "log", 0, A))
        rows[place] = (("write", "log", False, A), rows[place][1])
        self.told((held, rows), False)
        rows = self.rows()
        seen = [now for now in rows[place][1] if now[4]][0]
        for fake in ((True, *seen[4][1:]), (False, *seen[4][1:]), (*seen[4][:2], int(seen[4][2])), (seen[4][0], True, seen[4][2])):
            rows = self.rows()
            rows[place][1][rows[place][1].index(seen)] = (*seen[:4], fake)
            self.told((held, rows), False)

    def test_other_lags(self):
        held, rows = table(*lagging())
        for fork in held:
            for channel in held[fork]:
                for many in (held[fork][channel] + 1, -held[fork][channel] - 7, bool(held[fork][channel]), None, "0"):
                    told = table(*lagging())[0]
                    told[fork][channel] = many
                    self.told((told, rows), False)

    def test_any_values(self):
        held, rows = table(*lagging())
        for value in any_values():
            for told in (value, (value, rows), (held, value), (held, [value] * len(rows)), (held, rows[:-1] + [value]),
                         (held, rows[:-1] + [(rows[-1][0], value)]), (held, rows[:-1] + [(rows[-1][0], [value])]),
                         (held, rows[:-1] + [(value, rows[-1][1])]), (held, rows[:-1] + [(rows[-1][0], rows[-1][1] + [value])])):
                self.told(told, False)

    def test_altered_tables(self):
        truths = {True: 0, False: 0}
        for seed in range(60):
            chance, (one, other) = random.Random(seed), some_pair(seed, 11)
            if not are_alike(one, other) or not things(one, other):
                continue
            for _ in range(12):
                held, rows = table(one, other)
                place = chance.randrange(len(rows))
                thing, found = rows[place]
                more = [telling.some_stand(chance, one, other, thing, held) for _ in range(chance.randrange(3))]
                rows[place] = chance.choice([(thing, altered(chance, found)), (thing, found + more), altered(chance, rows[place])])
                truth = is_whole_table(one, other, (held, rows))
                truths[truth] += 1
                self.assertIs(is_table(one, other, (held, rows)), truth)
        self.assertGreater(min(truths.values()), 40)

    def test_tables_of_others(self):
        found = []
        for seed in (1, 3, 4, 6, 8, 10, 11):
            one, other = some_pair(seed)
            if are_alike(one, other):
                found.append((one, other, table(one, other)))
        for one, other, _ in found:
            for _, _, value in found:
                self.assertIs(is_table(one, other, value), is_whole_table(one, other, value))

    def test_arguments_stay(self):
        one, other = lagging()
        told = table(one, other)
        is_table(one, other, told), is_lags(one, other, told[0])
        self.assertEqual(told, table(one, other))
        thing, found = told[1][0]
        self.assertIn(beginning(one, other, thing)[0], found)
        self.assertEqual(behind(one, other, thing, found[0], "yes"), behind(one, other, thing, found[0], "no"))


class IsLagsTest(Case):
    def test_told_and_altered(self):
        for seed in range(40):
            chance, (one, other) = random.Random(seed), some_pair(seed)
            held = lags(one, other)
            for _ in range(2):
                self.assertIs(is_lags(one, other, held), held is not None)
            for value in (None, {}, {("start", ()): {}}):
                self.assertIs(is_lags(one, other, value), False)
            if held is not None:
                turned = {fork: dict(list(row.items())[::-1]) for fork, row in list(held.items())[::-1]}
                self.assertIs(is_lags(one, other, turned), True)
                for _ in range(10):
                    pairs = altered(chance, [(fork, list(row.items())) for fork, row in held.items()])
                    try:
                        value = {fork: dict(row) for fork, row in pairs}
                    except (TypeError, ValueError):
                        value = pairs
                    self.assertIs(is_lags(one, other, value), ordered(value) == ordered(held), value)

    def test_wrong_values(self):
        one, other = lagging()
        held = lags(one, other)
        for value in any_values() + [list(held), list(held.items()), tuple(held)]:
            self.assertIs(is_lags(one, other, value), False)
            for fork in held:
                self.assertIs(is_lags(one, other, {**held, fork: value}), False)
            if not isinstance(value, (list, dict, tuple)):
                self.assertIs(is_lags(one, other, {**held, value: {"log": 0, "out": 0}}), False)
                self.assertIs(is_lags(one, other, {**held, ("end", ()): {"log": 0, "out": 0, value: 0}}), False)
                self.assertIs(is_lags(one, other, {**held, ("end", ()): {"log": 0, "out": value}}), isinstance(value, int) and
                              not isinstance(value, bool) and value == 0)
        first = ("if", (0,))
        self.assertEqual(held[first], {"log": 1, "out": 0})
        for row in ({"log": True, "out": 0}, {"log": 1, "out": False}, {"log": 1}, {"log": 1, "out": 0, "c": 0}, {"log": 0, "out": 1}):
            self.assertIs(is_lags(one, other, {**held, first: row}), False)
        faked = {fork: row for fork, row in held.items() if fork != first}
        self.assertIs(is_lags(one, other, {**faked, ("if", (False,)): held[first]}), False)
        self.assertIs(is_lags(one, other, {**faked, ("if", (2,)): held[first]}), False)
        self.assertIs(is_lags(one, other, {**faked, first: held[first]}), True)
        self.assertIs(is_lags(other, one, held), False)
        self.assertIs(is_lags(other, one, lags(other, one)), True)

    def test_programs_without_writes(self):
        one = Program([], [IF])
        self.assertIs(is_lags(one, one, {fork: {} for fork in lags(one, one)}), True)
        self.assertIs(is_lags(one, one, {fork: [] for fork in lags(one, one)}), False)
        self.assertIs(is_lags(one, one, {}), False)


if __name__ == "__main__":
    unittest.main()
