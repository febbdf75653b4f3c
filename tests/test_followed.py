"""Point 54: all stands of a thing."""

import itertools
import random
import unittest

from movedchecks.errors import NoLags, TooMany, Unlike
from movedchecks.followed import stands
from movedchecks.forms import is_stand
from movedchecks.lags import lags
from movedchecks.programs import Program
from movedchecks.stands import stand, things
from tests import telling
from tests.cases import Case, many_stands
from tests.makers import Dense
from tests.model import choices_up_to

A, START, END = ("in", "a"), ("start", ()), ("end", ())
LOG, IF = ("write", "log", ["a"]), ("if", [], [], [])


def made(word, *parts):
    return ("made", word, parts)


X = made("f", A)
CHECK = ("check", X)


def program(*rows):
    return Program(["a"], [("make", "x", "f", ["a"]), *rows])


class StandsTest(Case):
    def told(self, one, other, thing, found):
        for _ in range(2):
            self.assertEqual(stands(one, other, thing), sorted(found))
            stands(one, other, thing).clear()

    def test_few(self):
        x = (("x", X),)
        start, at = (START, (), (), (), ()), ("if", (0,))
        self.told(program(("check", "x")), program(("check", "x")), CHECK, [start])
        self.told(program(), program(), CHECK, [start, (END, (), x, x, ())])
        self.told(program(("check", "x"), IF), program(IF, ("check", "x")), CHECK, [start, (at, (), x, x, (0, ()))])
        self.told(program(LOG, IF), program(IF, LOG), ("write", "log", 0, A), [
            start, (at, (), (), (), ()), (at, (), (), (), (0, 1, True)), (END, (), (), (), ())])
        self.told(program(("check", "x"), LOG, IF), program(LOG, ("check", "x"), IF), CHECK, [start])

    def test_loop(self):
        one = Program([], [("loop", [], [("read", "r", "c"), ("write", "c", []), ("if", [], [], [])])])
        mark, first, at, again = ("mark", "c", 0), ("first", (0,)), ("if", (0, 1, 0)), ("again", (0,))
        held = (("r", mark),)
        told = [(fork, (moment,), (), (), ()) for fork in (first, again) for moment in ("0", "later")]
        told += [(START, (moment,), (), (), ()) for moment in ("0", "later")]
        told += [(at, ("gone",), held, held, ()), (at, ("gone",), (), (), ()), (at, ("later",), (), (), ())]
        told += [(at, ("0",), (), (), ())]
        told += [(again, ("gone",), (), (), ()), (END, ("0",), (), (), ()), (END, ("later",), (), (), ()), (END, ("gone",), (), (), ())]
        self.told(one, one, ("write", "d", 0, mark), told)

    def test_plain_walk(self):
        lengths = []
        for seed in range(60):
            chance, maker = random.Random(seed), Dense(seed)
            one, other = maker.pair(13)
            for thing in telling.some_things(chance, one, other, 3) if lags(one, other) is not None else []:
                found = telling.followed(one, other, thing)[0]
                lengths.append(len(found))
                self.told(one, other, thing, found)
                for value in found:
                    self.assertIs(is_stand(one, other, thing, value), True)
        self.assertGreater(max(lengths), 30)

    def test_those_that_stand_tells(self):
        for seed in range(40):
            chance, maker = random.Random(seed), Dense(seed)
            one, other = maker.pair(10)
            for thing in telling.some_things(chance, one, other, 2) if lags(one, other) is not None else []:
                told = set()
                numberings = list(telling.all_numbers(thing, 4 if len(telling.marks_of(thing)) > 2 else 6))
                for words, numbers in itertools.product(choices_up_to(one, 4), numberings):
                    for number in range(4 if thing[0] == "write" else 1):
                        told.add(stand(one, other, thing, numbers, words, number=number))
                found = set(stands(one, other, thing))
                self.assertLessEqual(told - {"done", "broken"}, found)
                if not any(row[0] == "loop" for row in one.rows()) and len(choices_up_to(one, 4)) == len(choices_up_to(one, 5)):
                    self.assertEqual(told - {"done", "broken"}, {now for now in found if now[0] != START})

    def test_too_many(self):
        cases = 0
        for seed in range(40):
            chance, maker = random.Random(seed), Dense(seed)
            one, other = maker.pair()
            for thing in telling.some_things(chance, one, other, 2) if lags(one, other) is not None else []:
                found = stands(one, other, thing)
                for most in (len(found), len(found) + 1, 20000):
                    self.assertEqual(stands(one, other, thing, most=most), found)
                for most in {1, len(found) // 2, len(found) - 1} - {0, len(found)}:
                    self.fails(TooMany, lambda: stands(one, other, thing, most=most), most=most)
                    cases += 1
        self.assertGreater(cases, 50)

    def test_two_thousand(self):
        one, thing = many_stands()
        self.assertIn(thing, things(one, one))
        found = stands(one, one, thing, most=20000)
        self.assertGreater(len(found), 2000)
        self.fails(TooMany, stands, one, one, thing, most=2000)

    def test_errors_in_order(self):
        one = program(LOG, IF)
        for other in (program(LOG), Program(["b"], [("write", "log", ["b"]), IF]), program(IF, ("leave",))):
            for both in ((one, other), (other, one)):
                self.fails(Unlike, lambda: stands(*both, CHECK, most=1))
        for both in ((one, program(IF)), (program(IF), one)):
            self.fails(NoLags, lambda: stands(*both, CHECK, most=1))
        self.fails(TooMany, lambda: stands(one, one, ("write", "log", 0, A), most=1), most=1)

    def test_two_pairs_by_turns(self):
        pairs = []
        for seed in (5, 8):
            one, other = Dense(seed).pair()
            pairs.append([((one, other, thing), stands(one, other, thing)) for thing in things(one, other)])
        for call, found in [told for both in zip(*pairs) for told in both] * 2:
            self.assertEqual(stands(*call), found)


if __name__ == "__main__":
    unittest.main()
