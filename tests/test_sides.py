"""Point 82: two programs side by side."""

import random
import unittest

from movedchecks.differences import first_checks
from movedchecks.errors import Nothing, NoWord, Unlike, Wrong
from movedchecks.playing import Run, play, written_at
from movedchecks.programs import Program
from movedchecks.sides import Sides
from movedchecks.skeletons import words_at
from tests import model
from tests.cases import A, CHECK_X, CHECK_Y, IF, LEAVE, LOG, OUT, X, Y, Case, made, program
from tests.makers import Dense
from tests.model import Machine
from tests.values import any_values

LOOP = ("loop", [], [CHECK_X])


def some_pair(seed):
    maker = Dense(seed)
    return maker.pair(14) if seed % 3 == 0 else maker.near_pair(14)


def checked_in(machine):
    """The first checks of made results of a plain run, one by one."""
    counts, found = {}, []
    for kind, name, worth in machine.events:
        if kind == "write":
            counts[name] = counts.get(name, 0) + 1
        if kind == "check" and worth[0] == "made" and worth not in [result for result, _ in found]:
            found.append((worth, tuple(sorted(counts.items()))))
    return found


class SidesCase(Case):
    def stands(self, sides, one, other, words, bad):
        """Looks at all that is asked of a Sides that stands behind these words, each twice."""
        machines = [Machine(part, words, bad) for part in (one, other)]
        seen = tuple([machine.seen() for machine in machines])
        plain = Machine(one, words)
        for _ in range(2):
            self.assertEqual(sides.choices(), words)
            self.assertEqual(len(sides), len(words))
            self.assertEqual(sides.at_fork(), plain.fork)
            told = sides.seen()
            self.assertEqual(told, seen)
            self.assertEqual([type(told), type(told[0]), type(told[1])], [tuple] * 3)
            for written, _ in told:
                self.assertEqual(list(written), sorted(written))
                for rows in written.values():
                    rows.append(1)
                written["c"] = 1
            for channel in ("c", "d", "log", "zz"):
                counts = [len(machine.writes.get(channel, [])) for machine in machines]
                self.assertEqual(sides.lag(channel), counts[0] - counts[1])
            for side in (0, 1):
                checked = sides.checked(side)
                self.assertEqual(checked, checked_in(machines[side]))
                checked.append(1)
            ended = None not in [machine.end for machine in machines]
            self.assertIs(sides.is_parted(), ended and seen[0] != seen[1])
            sides.choices().append("out")

    def may(self, one, other, words, bad):
        """The words that may be chosen behind these."""
        ends = [Machine(part, words, bad).end for part in (one, other)]
        if all(end is not None for end in ends):
            return []
        return words_at(Machine(one, words).fork)


class WalkTest(SidesCase):
    def test_drawn_programs(self):
        ends = {}
        for seed in range(60):
            chance, (one, other) = random.Random(seed), some_pair(seed)
            roads = model.whole_up_to(one, 6)
            checked = sorted({worth for words in roads[:20] for part in (one, other)
                              for worth, _ in checked_in(Machine(part, words))})
            bad = chance.sample(checked, min(len(checked), chance.choice((0, 1, 1, 2))))
            sides, words = Sides(one, other, chance.choice((bad, tuple(bad), bad + bad))), []
            for _ in range(30):
                self.stands(sides, one, other, words, bad)
                may = self.may(one, other, words, bad)
                for word in ("yes", "no", "round", "out", "", "start"):
                    if word not in may:
                        self.fails(NoWord, sides.go, word, word=word)
                if may and chance.random() < 0.75 and len(words) < 8:
                    word = chance.choice(may)
                    self.assertIsNone(sides.go(word))
                    words = words + [word]
                elif words:
                    self.assertEqual(sides.back(), words[-1])
                    words = words[:-1]
                else:
                    self.fails(Nothing, sides.back)
            ends[tuple([end and end[0] for _, end in sides.seen()])] = True
        self.assertGreater(len(ends), 3)

    def test_against_whole_runs(self):
        parted = 0
        for seed in range(40):
            one, other = some_pair(seed)
            for words in model.whole_up_to(one, 5)[:8]:
                sides = Sides(one, other)
                for word in words:
                    sides.go(word)
                self.assertEqual(sides.seen(), (play(one, words, []), play(other, words, [])))
                for channel in ("c", "d"):
                    counts = [written_at(part, words).get(channel, 0) for part in (one, other)]
                    self.assertEqual(sides.lag(channel), counts[0] - counts[1])
                self.assertEqual([sides.checked(0), sides.checked(1)], [first_checks(one, words), first_checks(other, words)])
                self.assertIs(sides.is_parted(), play(one, words, []) != play(other, words, []))
                parted += sides.is_parted()
        self.assertGreater(parted, 10)

    def test_long_roads(self):
        rows = [("loop", [], [("read", "r", "log"), ("make", "z", "h", ["r"]), ("check", "z"), LOG])]
        sides = Sides(program(*rows), program(*rows))
        for _ in range(200):
            sides.go("round")
        self.assertEqual([len(sides), len(sides.checked(0)), sides.lag("log")], [200, 200, 0])
        self.assertEqual(sides.checked(1)[199], (made("h", ("seen", "log", 199)), (("log", 199),)))
        for _ in range(190):
            self.assertEqual(sides.back(), "round")
        self.assertEqual(len(sides.seen()[0][0]["log"]), 10)


class EndsTest(SidesCase):
    def test_one_has_ended_by_an_error(self):
        one, other = program(IF, CHECK_X, IF), program(IF, IF, CHECK_X)
        sides = Sides(one, other, [X])
        self.stands(sides, one, other, [], [X])
        sides.go("yes")
        self.assertEqual(sides.seen(), (({}, ("error", "f")), ({}, None)))
        self.assertEqual([sides.checked(0), sides.checked(1), sides.is_parted()], [[(X, ())], [], False])
        self.assertEqual(sides.at_fork(), ("if", (1,)))
        self.fails(NoWord, sides.go, "round", word="round")
        sides.go("no")
        self.assertEqual(sides.seen(), (({}, ("error", "f")), ({}, ("error", "f"))))
        self.assertIs(sides.is_parted(), False)
        self.assertEqual(sides.at_fork(), ("end", ()))
        self.assertEqual([sides.back(), sides.back()], ["no", "yes"])
        self.assertEqual(sides.seen(), (({}, None), ({}, None)))
        self.fails(Nothing, sides.back)

    def test_the_other_one_has_ended_by_an_error(self):
        one, other = program(LOG, IF, CHECK_X, IF), program(CHECK_X, IF, LOG, IF)
        sides = Sides(one, other, [X])
        self.stands(sides, one, other, [], [X])
        self.assertEqual([end for _, end in sides.seen()], [None, ("error", "f")])
        self.assertIs(sides.is_parted(), False)
        sides.go("no")
        self.assertEqual([end for _, end in sides.seen()], [("error", "f")] * 2)
        self.assertIs(sides.is_parted(), True)
        self.stands(sides, one, other, ["no"], [X])

    def test_both_have_ended_by_errors(self):
        one, other = program(CHECK_X, LOG, LOOP), program(LOG, CHECK_X, LOOP)
        sides = Sides(one, other, (X,))
        self.assertEqual(sides.at_fork(), ("first", (0,)))
        for word in ("round", "out", "yes", None):
            self.fails(NoWord, sides.go, word, word=word)
        self.assertIs(sides.is_parted(), True)
        self.assertEqual([sides.lag("log"), sides.lag("out"), len(sides)], [-1, 0, 0])
        self.assertEqual([sides.checked(0), sides.checked(1)], [[(X, ())], [(X, (("log", 1),))]])

    def test_errors_behind_rounds(self):
        rows = [("read", "r", "log"), ("make", "z", "h", ["r"]), ("check", "z")]
        one, other = program(("loop", [], [*rows, LOG])), program(("loop", [], [LOG, *rows]))
        bad = [made("h", ("seen", "log", 1))]
        sides = Sides(one, other, bad)
        sides.go("round")
        self.assertEqual([end for _, end in sides.seen()], [None, ("error", "h")])
        sides.go("round")
        self.stands(sides, one, other, ["round"] * 2, bad)
        self.assertEqual([end for _, end in sides.seen()], [("error", "h")] * 2)
        self.assertEqual(sides.at_fork(), ("again", (0,)))
        self.fails(NoWord, sides.go, "out", word="out")
        sides.back()
        sides.go("out")
        self.assertEqual(sides.seen(), (({"log": [(A,)]}, ("done",)), ({"log": [(A,)]}, ("error", "h"))))
        self.assertIs(sides.is_parted(), True)

    def test_ends_and_leaves(self):
        one = program(("if", [LEAVE], [], []))
        sides = Sides(one, one)
        sides.go("yes")
        self.assertEqual([sides.at_fork(), sides.seen()[0], sides.is_parted()], [("leave", (0, 0, 0)), ({}, ("left",)), False])
        self.fails(NoWord, sides.go, "no", word="no")
        sides.back()
        sides.go("no")
        self.assertEqual([sides.at_fork(), sides.seen()[1]], [("end", ()), ({}, ("done",))])
        self.fails(NoWord, sides.go, "yes", word="yes")

    def test_programs_without_rows(self):
        for inputs in ([], ["a"]):
            sides = Sides(Program(inputs, []), Program(inputs, []))
            self.assertEqual([sides.at_fork(), sides.seen(), len(sides)], [("end", ()), (({}, ("done",)), ({}, ("done",))), 0])
            self.fails(NoWord, sides.go, "", word="")
            self.fails(Nothing, sides.back)
        lone = Sides(Program([], []), Program([], [("write", "c", [])]))
        self.assertEqual([lone.is_parted(), lone.lag("c")], [True, -1])

    def test_any_word(self):
        sides = Sides(program(IF), program(IF))
        for value in any_values() + [sides, ["yes"], ("no",)]:
            self.assertIs(self.fails(NoWord, sides.go, value, word=value).word, value)
        self.assertEqual(sides.choices(), [])


class StateTest(SidesCase):
    def test_copied(self):
        one, other = program(LOOP, CHECK_Y), program(LOOP, CHECK_Y, LOG)
        sides = Sides(one, other, [Y])
        for _ in range(3):
            sides.go("round")
        copy = sides.copied()
        self.assertTrue(copy == sides and not copy != sides)
        copy.go("out")
        self.assertEqual([sides.choices(), copy.choices()], [["round"] * 3, ["round"] * 3 + ["out"]])
        self.assertFalse(copy == sides)
        sides.back()
        self.assertEqual(len(copy), 4)
        copy.back(), copy.back()
        self.assertTrue(copy == sides)
        over = Sides(program(CHECK_X, IF), program(IF, CHECK_X), [X])
        over.go("yes")
        self.assertTrue(over.copied() == over)
        self.stands(over.copied(), program(CHECK_X, IF), program(IF, CHECK_X), ["yes"], [X])

    def test_equal(self):
        one, other = program(CHECK_X, IF), program(IF, CHECK_X)
        sides = Sides(one, other, [X, Y])
        for same in (Sides(one, other, (Y, X)), Sides(one, other, [X, Y, X]), Sides(program(CHECK_X, IF), other, [Y, X, Y])):
            self.assertTrue(sides == same and same == sides and not sides != same)
        for unlike in (Sides(other, one, [X, Y]), Sides(one, one, [X, Y]), Sides(one, other), Sides(one, other, [X]), None, 0,
                       Run(one, [X, Y]), one, (one, other), Sides(other, other, [X, Y])):
            self.assertTrue(sides != unlike and not sides == unlike)
        self.assertIs(sides == Sides(one, other, [X, Y]), True)
        self.assertIs(sides == None, False)
        with self.assertRaises(TypeError):
            iter(sides)
        moved = Sides(one, other)
        for word in ("yes", "no"):
            moved.go(word)
            self.assertFalse(moved == Sides(one, other))
            back = Sides(one, other)
            back.go("yes")
            self.assertIs(moved == back, word == "yes")
            moved.back()

    def test_bad_results_that_change_behind(self):
        bad = [X]
        one, other = program(CHECK_X, IF), program(IF, CHECK_X)
        sides = Sides(one, other, bad)
        bad.clear()
        self.assertEqual(sides.seen()[0], ({}, ("error", "f")))
        sides.go("no")
        self.assertEqual([end for _, end in sides.seen()], [("error", "f")] * 2)
        self.assertTrue(sides.copied() == sides)
        sides.back()
        self.assertTrue(sides == Sides(one, other, (X, X)))


class WrongTest(SidesCase):
    def test_places(self):
        one, other = program(CHECK_X), program(CHECK_X, IF)
        for value in any_values() + [Sides(one, one), Run(one)]:
            self.fails(Wrong, Sides, value, other, place=0)
            self.fails(Wrong, Sides, value, value, value, place=0)
            self.fails(Wrong, Sides, one, value, place=1)
            self.fails(Wrong, Sides, one, value, value, place=1)
            if value not in ([], ()):
                self.fails(Wrong, Sides, one, other, value, place=2)
            wrong = [[value], (X, value), [("made", "f", (value,))]]
            wrong += [[("made", value, ())]] if value != "a" else []
            wrong += [[("made", "f", value)]] if value != () else []
            for bad in wrong:
                self.fails(Wrong, Sides, one, other, bad, place=2)

    def test_bad_results(self):
        one = program(CHECK_X)
        for bad in ([A], [("seen", "c", 0)], [X, A], [list(X)], {X: True}, X, [("made", "f", (A, A, A, A))], [("made", "f", [A])],
                    [("made", "f", (("seen", "c", True),))], [("made", "F", ())], [("made", "f", (("seen", "c", -1),))], None, "x"):
            self.fails(Wrong, Sides, one, one, bad, place=2)
        for bad in ([], (), [X], (X, Y, X), [("made", "f", (("seen", "c", 10 ** 30), A, X))] * 3):
            self.assertEqual(Sides(one, one, bad).choices(), [])

    def test_unlike(self):
        one = program(CHECK_X)
        for other in (program(IF), program(LEAVE), Program(["b"], []), Program([], [])):
            self.fails(Unlike, Sides, one, other)
            self.fails(Unlike, Sides, other, one, [X])
            self.fails(Wrong, Sides, one, other, [A], place=2)
        self.assertEqual(len(Sides(Program(["a", "b"], [LOG]), Program(["b", "a"], [OUT]))), 0)


if __name__ == "__main__":
    unittest.main()
