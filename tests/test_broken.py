"""Point 55: things that break, and choices that break them."""

import random
import unittest

from movedchecks.broken import breaking, first_broken
from movedchecks.errors import NoLags, TooMany, Unlike
from movedchecks.followed import stands
from movedchecks.lags import lags
from movedchecks.playing import play
from movedchecks.programs import Program
from movedchecks.skeletons import is_whole
from movedchecks.stands import things
from tests import model, telling
from tests.cases import (
    A, CHECK_X, CHECK_Y, IF, LEAVE, LOG, OUT, X, Y, Case, full_of_things, made, many_stands, program
)
from tests.makers import Dense

class BreakingTest(Case):
    def told(self, one, other, thing, found):
        for pair in ((one, other), (other, one)):
            for _ in range(2):
                told = breaking(*pair, thing)
                self.assertEqual(told, found)
                if told is not None:
                    self.assertEqual(list(map(type, told)), [list, list])
                    self.assertNotEqual(play(one, *told), play(other, *told))
                    told[0].append(1), told[1].append(1)

    def test_check(self):
        self.told(program(CHECK_X, LOG), program(LOG, CHECK_X), ("check", X), ([], [X]))
        self.told(program(CHECK_X), program(), ("check", X), ([], [X]))
        self.told(program(CHECK_X, LOG), program(LOG, CHECK_X), ("check", Y), None)
        self.told(program(CHECK_X, OUT, LOG), program(CHECK_X, LOG, OUT), ("check", X), None)

    def test_order(self):
        order = ("order", X, Y)
        self.told(program(CHECK_X, CHECK_Y), program(CHECK_Y, CHECK_X), order, ([], [X, Y]))
        self.told(program(CHECK_X, LOG, CHECK_Y), program(CHECK_X, LOG, CHECK_Y), order, None)
        self.told(program(CHECK_X), program(), order, None)
        late = [("make", "x", "z", ["a"]), ("make", "y", "b", ["a"])]
        one, other = Program(["a"], late + [CHECK_X, CHECK_Y]), Program(["a"], late + [CHECK_Y, CHECK_X])
        self.told(one, other, ("order", made("b", A), made("z", A)), ([], [made("b", A), made("z", A)]))
        self.told(one, other, ("order", made("z", A), made("b", A)), ([], [made("b", A), made("z", A)]))

    def test_write(self):
        one, other = program(("write", "log", ["a", "x"])), program(("write", "log", ["a", "y"]))
        self.told(one, other, ("write", "log", 1, X), ([], []))
        self.told(one, other, ("write", "log", 1, Y), ([], []))
        self.told(one, other, ("write", "log", 0, A), None)
        self.told(one, other, ("write", "out", 1, X), None)

    def test_words_to_the_end(self):
        rows = [("loop", [], [("if", [LEAVE], [IF], [])]), IF]
        one = program(*rows, LOG)
        broken = one.put((2, 1, 0), CHECK_X)
        self.told(one, broken, ("check", X), (["round", "yes"], [X]))
        found = breaking(one, one.put((2, 1, 0, 1, 1), CHECK_X), ("check", X))
        self.assertEqual((len(found[0]), found[1]), (5, [X]))
        found = breaking(one, one.put((4,), CHECK_X), ("check", X))
        self.assertIn(found, [(["out", word], [X]) for word in ("yes", "no")])

    def test_fewest_words_in_all(self):
        # The first break needs one word, but many more to an end; another one is ahead of an end.
        one, other = [program(("if", [("if", [], rows, [])], [*rows, IF, IF, IF], []))
                      for rows in ([CHECK_X, LOG], [LOG, CHECK_X])]
        self.told(one, other, ("check", X), (["yes", "no"], [X]))
        # From the fourth if the fewest words to an end are not those of the last word.
        one, other = [program(IF, IF, IF, *rows, ("if", [IF, IF], [LEAVE], [])) for rows in ([CHECK_X, LOG], [LOG, CHECK_X])]
        choices, bad = breaking(one, other, ("check", X))
        self.assertEqual((len(choices), choices[3], bad), (4, "no", [X]))

    def test_numbers_of_marks(self):
        body = [("read", "r", "log"), ("make", "k", "f", ["r"]), LOG]
        one = Program(["a"], [("loop", [], body + [("if", [], [("check", "k")], [])])])
        other = Program(["a"], [("loop", [], body + [("if", [], [], [])])])
        found = breaking(one, other, ("check", made("f", ("mark", "log", 0))))
        self.assertEqual(found, (["round", "no", "out"], [made("f", ("seen", "log", 0))]))
        late = Program(["a"], [LOG, LOG, LOG, *one.rows()]), Program(["a"], [LOG, LOG, LOG, *other.rows()])
        found = breaking(*late, ("check", made("f", ("mark", "log", 0))))
        self.assertEqual(found, (["round", "no", "out"], [made("f", ("seen", "log", 3))]))

    def test_numbers_of_several_rounds(self):
        body = [("read", "r", "log"), ("make", "k", "f", ["o", "r"]), ("if", [LOG], [], [])]
        rows = [LOG, ("loop", [("read", "o", "log")], body)]
        one = Program(["a"], rows).put((1, 1, 2), ("check", "k"))
        other = Program(["a"], rows).put((1, 1, 2, 0, 0), ("check", "k")).put((1, 1, 2, 1, 0), ("check", "k"))
        self.told(one, other, ("check", made("f", *[("mark", "log", index) for index in (0, 1)])), None)
        gone = Program(["a"], rows)
        choices, bad = breaking(one, gone, ("check", made("f", ("mark", "log", 0), ("mark", "log", 1))))
        self.assertEqual((choices[:3], len(choices)), (["round", "yes", "round"], 5))
        self.assertEqual(bad, [made("f", ("seen", "log", 1), ("seen", "log", 2))])

    def test_random_pairs(self):
        told = {}
        for seed in range(110):
            chance, maker = random.Random(seed), Dense(seed)
            one, other = maker.pair(12) if seed % 2 else maker.near_pair(12)
            for thing in telling.some_things(chance, one, other, 4) if lags(one, other) is not None else []:
                found = breaking(one, other, thing)
                self.assertIs(found is None, not telling.followed(one, other, thing)[1])
                self.assertEqual(breaking(one, other, thing), found)
                told[thing[0], found is None] = told.get((thing[0], found is None), 0) + 1
                most = 5 if found is None else min(5, len(found[0]) - 1)
                for words in model.whole_up_to(one, most) if most >= 0 else []:
                    self.assertFalse(telling.breaks_along(one, other, thing, words, 7))
                if found is not None:
                    self.whole_break(one, other, thing, found)
        self.assertEqual(len(told), 6)

    def whole_break(self, one, other, thing, found):
        choices, bad = found
        self.assertTrue(is_whole(one, choices))
        self.assertTrue(telling.breaks_along(one, other, thing, choices, 9))
        self.assertEqual(len(bad), {"check": 1, "order": 2, "write": 0}[thing[0]])
        self.assertEqual(bad, sorted(bad))
        machines = [model.Machine(program, choices, bad) for program in (one, other)]
        self.assertNotEqual(machines[0].seen(), machines[1].seen())

    def test_too_many(self):
        cases = 0
        for seed in range(60):
            maker = Dense(seed)
            one, other = maker.pair()
            for thing in things(one, other) if lags(one, other) is not None else []:
                many = len(stands(one, other, thing))
                found = breaking(one, other, thing)
                self.assertEqual(breaking(one, other, thing, most=many), found)
                if many > 1:
                    self.fails(TooMany, lambda: breaking(one, other, thing, most=many - 1), most=many - 1)
                    cases += found is not None
        self.assertGreater(cases, 5)

    def test_too_many_behind_a_break(self):
        one, thing = many_stands()
        other = one.put((0, 1, 0, 1, 5), ("check", "x"))
        for both in ((one, other), (other, one)):
            self.fails(TooMany, breaking, *both, thing, most=2000)
            self.assertIsNone(breaking(*both, thing, most=20000))

    def test_errors_in_order(self):
        one = program(LOG, IF)
        for other in (program(LOG), Program(["b"], [("write", "log", ["b"]), IF]), program(IF, LEAVE)):
            for both in ((one, other), (other, one)):
                self.fails(Unlike, lambda: breaking(*both, ("check", X), most=1))
                self.fails(Unlike, lambda: first_broken(*both, most=1))
        for both in ((one, program(IF)), (program(IF), one)):
            self.fails(NoLags, lambda: breaking(*both, ("check", X), most=1))
            self.fails(NoLags, lambda: first_broken(*both, most=1))


class FirstBrokenTest(Case):
    def test_the_first(self):
        one, other = program(LOG, CHECK_X, CHECK_Y), program(CHECK_Y, CHECK_X, LOG)
        self.assertEqual(first_broken(one, other), ("check", X))
        self.assertEqual(first_broken(program(CHECK_X, CHECK_Y), program(CHECK_Y, CHECK_X)), ("order", X, Y))
        self.assertEqual(first_broken(program(("write", "log", ["x"])), program(("write", "log", ["y"]))), ("write", "log", 0, X))
        self.assertIsNone(first_broken(one, one))
        self.assertIsNone(first_broken(Program([], []), Program([], [])))

    def test_in_the_order_of_things(self):
        kinds = set()
        for seed in range(80):
            one, other = Dense(seed).pair() if seed % 2 else Dense(seed).near_pair()
            if lags(one, other) is not None:
                broken = [thing for thing in things(one, other) if breaking(one, other, thing) is not None]
                found = broken[0] if broken else None
                kinds.add(found and found[0])
                for both in ((one, other), (other, one), (one, other)):
                    self.assertEqual(first_broken(*both), found)
        self.assertEqual(kinds, {None, "check", "order", "write"})

    def test_too_many(self):
        """Only the things up to the first that breaks are followed."""
        cases = 0
        for seed in range(80):
            one, other = Dense(seed).pair(12)
            if lags(one, other) is None:
                continue
            found = things(one, other)
            many = [len(stands(one, other, thing)) for thing in found]
            broken = [breaking(one, other, thing) is not None for thing in found]
            for most in sorted({1, *many, *[count - 1 for count in many]} - {0}):
                wanted = None
                for thing, count, breaks in zip(found, many, broken):
                    if count > most or breaks:
                        wanted = TooMany if count > most else thing
                        break
                if wanted is TooMany:
                    self.fails(TooMany, lambda: first_broken(one, other, most=most), most=most)
                else:
                    self.assertEqual(first_broken(one, other, most=most), wanted)
                    cases += wanted is not None and most < max(many)
        self.assertGreater(cases, 5)

    def test_too_many_things(self):
        one, other, more = full_of_things()
        for both in ((one, more), (more, one)):
            self.fails(TooMany, lambda: first_broken(*both, most=1), most=300)
        self.fails(TooMany, lambda: first_broken(one, other, most=1), most=1)


if __name__ == "__main__":
    unittest.main()
