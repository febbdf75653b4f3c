"""Point 32 (with 2, 3 and 12): single runs."""

import unittest

from movedchecks.errors import BadChoices, Nothing, NoWord
from movedchecks.playing import Run, events, fork_at, play, results_at, stops_at, written_at
from movedchecks.programs import Program
from movedchecks.skeletons import in_sight_at
from tests import model
from tests.cases import Case
from tests.values import any_values

A = ("in", "a")
END = ("end", ())


def made(word, *results):
    return ("made", word, results)


def make(name, word, *args):
    return ("make", name, word, list(args))


def sample():
    return Program(["a"], [
        make("x", "f", "a"),
        ("write", "log", ["a", "x"]),
        ("loop", [("read", "r", "log"), make("y", "g", "r")],
         [("check", "y"), ("write", "log", []), ("read", "s", "log"), make("z", "h", "s", "y"), ("check", "z")]),
        ("if", [("write", "out", ["x"]), ("leave",)], [make("v", "f", "x")], [("j", "x", "v")]),
        ("check", "j"),
    ])


X = made("f", A)
Y = made("g", ("seen", "log", 1))
V = made("f", X)


def z(number):
    return made("h", ("seen", "log", number), Y)


BEGINNING = [("make", "x", X), ("write", "log", (A, X))]
FIRST_ROUND = [
    ("read", "r", ("seen", "log", 1)), ("make", "y", Y), ("check", "y", Y), ("write", "log", ()),
    ("read", "s", ("seen", "log", 2)), ("make", "z", z(2)), ("check", "z", z(2)),
]
SECOND_ROUND = [
    ("check", "y", Y), ("write", "log", ()), ("read", "s", ("seen", "log", 3)), ("make", "z", z(3)),
    ("check", "z", z(3)),
]
NO = [("make", "v", V), ("join", "j", V), ("check", "j", V)]
YES = [("write", "out", (X,))]


class WaysTest(Case):
    def test_events(self):
        program = sample()
        for choices, told in [
            ([], BEGINNING), (["round"], BEGINNING + FIRST_ROUND), (["out"], BEGINNING),
            (["round", "round"], BEGINNING + FIRST_ROUND + SECOND_ROUND), (["out", "no"], BEGINNING + NO),
            (["round", "out", "yes"], BEGINNING + FIRST_ROUND + YES),
        ]:
            for words in (choices, tuple(choices)):
                events(program, words).clear()
                self.assertEqual(events(program, words), told)

    def test_fork_at(self):
        for choices, fork in [
            ([], ("first", (0,))), (["round"], ("again", (0,))), (["round", "round"], ("again", (0,))),
            (["out"], ("if", (1,))), (["out", "no"], END), (["round", "out", "yes"], ("leave", (1, 0, 0))),
        ]:
            self.assertEqual(fork_at(sample(), choices), fork)
        self.assertEqual(fork_at(Program([], []), ()), END)
        self.assertEqual(fork_at(Program([], [("leave",)]), []), ("leave", (0,)))

    def test_results_at(self):
        begun = {"a": A, "x": X}
        for choices, told in [
            ([], begun), (["round"], dict(begun, r=("seen", "log", 1), y=Y)), (["round", "round", "out"], begun),
            (["out", "no"], dict(begun, j=V)), (["out", "yes"], begun),
        ]:
            results_at(sample(), choices).clear()
            self.assertEqual(results_at(sample(), choices), told)
            self.assertEqual(list(results_at(sample(), choices)), sorted(told))

    def test_written_at(self):
        for choices, told in [
            ([], {"log": 1}), (["round", "round", "round"], {"log": 4}), (["out", "yes"], {"log": 1, "out": 1}),
        ]:
            written_at(sample(), choices).clear()
            self.assertEqual(written_at(sample(), choices), told)
        program = Program([], [("write", "z", []), ("write", "b", []), ("write", "z", [])])
        self.assertEqual(list(written_at(program, []).items()), [("b", 1), ("z", 2)])
        self.assertEqual(written_at(Program([], []), []), {})

    def test_as_told_by_the_model(self):
        for seed in range(60):
            program = model.Maker(seed).program()
            for choices in model.choices_up_to(program, 5):
                machine = model.Machine(program, choices)
                written = {channel: len(rows) for channel, rows in machine.writes.items()}
                self.assertEqual(events(program, choices), machine.events)
                self.assertEqual(fork_at(program, choices), machine.fork)
                self.assertEqual(written_at(program, choices), written)
                names = in_sight_at(program, machine.fork)
                self.assertEqual(results_at(program, choices), {name: machine.held[name] for name in names})

    def test_bad_choices(self):
        program = sample()
        calls = [events, fork_at, results_at, written_at, lambda *args: play(*args, []),
                 lambda *args: stops_at(*args, [X, Y, V])]
        for choices in (["out", "no"], ["round", "out", "yes"], ["round", "round", "round", "out", "no"]):
            for call in calls:
                for at in range(len(choices)):
                    for word in ("yes", "no", "round", "out", "", "Yes", None, ["out"]):
                        machine = model.Machine(program, [*choices[:at], word, *choices[at + 1:]])
                        if machine.wrong is not None:
                            self.fails(BadChoices, call, program, machine.words, at=machine.wrong)
                            self.fails(BadChoices, call, program, tuple(machine.words), at=machine.wrong)
                for more in ("yes", "round", ""):
                    self.fails(BadChoices, call, program, [*choices, more], at=len(choices))
                    self.fails(BadChoices, call, program, [*choices, more, more], at=len(choices))
            for call in calls[4:]:
                for at in range(len(choices)):
                    self.fails(BadChoices, call, program, choices[:at], at=at)
                    self.fails(BadChoices, call, program, [*choices[:at], "no way"], at=at)
        self.fails(BadChoices, events, Program([], []), ["out"], at=0)
        self.assertEqual([play(Program([], []), [], []), stops_at(Program([], []), [], [])], [({}, ("done",)), None])


class PlayTest(Case):
    def test_ends(self):
        program = sample()
        log = [(A, X)]
        for choices, bad, seen, stop in [
            (["out", "no"], [], ({"log": log}, ("done",)), None),
            (["out", "yes"], [], ({"log": log, "out": [(X,)]}, ("left",)), None),
            (["round", "out", "no"], [], ({"log": log + [()]}, ("done",)), None),
            (["round", "out", "no"], [X, made("f"), z(3), z(1)], ({"log": log + [()]}, ("done",)), None),
            (["round", "out", "no"], [Y], ({"log": log}, ("error", "g")), ((2, 1, 0), 1)),
            (["round", "out", "no"], [Y, Y, z(2)], ({"log": log}, ("error", "g")), ((2, 1, 0), 1)),
            (["round", "out", "no"], [z(2)], ({"log": log + [()]}, ("error", "h")), ((2, 1, 4), 1)),
            (["round", "round", "out", "yes"], [z(3), V], ({"log": log + [()] * 2}, ("error", "h")), ((2, 1, 4), 2)),
            (["round", "round", "out", "no"], [V], ({"log": log + [()] * 2}, ("error", "f")), ((4,), 4)),
            (["out", "yes"], [V, Y], ({"log": log, "out": [(X,)]}, ("left",)), None),
        ]:
            for words, results in ((choices, bad), (tuple(choices), tuple(bad)), (choices, bad[::-1])):
                told = play(program, words, results)
                self.assertEqual(told, seen)
                told[0].get("log").append(1)
                self.assertEqual(play(program, words, results), seen)
                self.assertEqual(stops_at(program, words, results), stop)

    def test_the_first_stretch(self):
        program = Program(["a"], [make("x", "f", "a"), ("check", "x"), ("loop", [], [("check", "x")])])
        self.assertEqual(play(program, ["round", "out"], [X]), ({}, ("error", "f")))
        self.assertEqual(stops_at(program, ["round", "out"], [X]), ((1,), 0))
        self.fails(BadChoices, play, program, ["round", "yes"], [X], at=1)
        self.fails(BadChoices, play, program, ["round"], [X], at=1)
        self.fails(BadChoices, stops_at, program, [], [X], at=0)

    def test_inputs_and_readings_are_never_bad(self):
        program = Program(["a"], [("read", "r", "c"), ("check", "a"), ("check", "r"), make("x", "f", "a", "r")])
        bad = made("f", A, ("seen", "c", 0))
        self.assertEqual(play(program, [], [bad]), ({}, ("done",)))
        self.assertEqual(play(program.put((4,), ("check", "x")), [], [bad]), ({}, ("error", "f")))

    def test_bad_results_can_be_written_and_be_args(self):
        program = Program(["a"], [make("x", "f", "a"), make("y", "f", "x"), ("write", "c", ["x", "y"]), ("check", "y")])
        self.assertEqual(play(program, [], [X]), ({"c": [(X, V)]}, ("done",)))
        self.assertEqual(play(program, [], [X, V]), ({"c": [(X, V)]}, ("error", "f")))

    def test_channels_ascend(self):
        program = Program([], [("write", "z", []), ("write", "b", []), ("write", "m", []), ("write", "b", [])])
        self.assertEqual(list(play(program, [], [])[0].items()), [("b", [(), ()]), ("m", [()]), ("z", [()])])

    def test_as_told_by_the_model(self):
        for seed in range(80):
            program = model.Maker(seed).program()
            for choices in model.whole_up_to(program, 5)[:12]:
                checked = [event[2] for event in model.Machine(program, choices).events if event[0] == "check"]
                checked = [result for result in checked if result[0] == "made"]
                for bad in [[], *[[result] for result in checked], checked[1::2], checked]:
                    machine = model.Machine(program, choices, bad)
                    self.assertEqual(play(program, choices, bad), machine.seen())
                    self.assertEqual(stops_at(program, choices, bad), machine.stop)

    def test_names(self):
        # Point 12: made names mean nothing to what is seen; words, channels and inputs are exchanged likewise.
        program, choices = sample(), ["round", "round", "out", "no"]
        new = program.renamed({"a": "a", "x": "j", "j": "x", "r": "s", "s": "r", "y": "y", "z": "v", "v": "z"})
        for bad in ([], [Y], [z(3)], [V]):
            self.assertEqual(play(new, choices, bad), play(program, choices, bad))
        swapped = Program(["b"], [self.swapped(row) for row in program.rows()])
        self.assertEqual(play(swapped, choices, [self.swapped(z(3))]), self.swapped(play(program, choices, [z(3)])))

    def swapped(self, thing):
        other = {"f": "g", "g": "f", "log": "out", "out": "log", "a": "b", "b": "a"}
        if isinstance(thing, dict):
            return {self.swapped(key): self.swapped(value) for key, value in thing.items()}
        if isinstance(thing, (list, tuple)):
            return type(thing)(self.swapped(part) for part in thing)
        return other.get(thing, thing) if isinstance(thing, str) else thing


class RunTest(Case):
    def state(self, run):
        return [run.fork, run.end, run.choices(), run.events(), run.written(), run.results()]

    def test_word_by_word(self):
        run = Run(sample())
        log = [(A, X)]
        self.assertEqual(self.state(run), [
            ("first", (0,)), None, [], BEGINNING, {"log": log}, {"a": A, "x": X}])
        self.assertEqual(run.go("round"), FIRST_ROUND)
        self.assertEqual(self.state(run), [
            ("again", (0,)), None, ["round"], BEGINNING + FIRST_ROUND, {"log": log + [()]},
            {"a": A, "r": ("seen", "log", 1), "x": X, "y": Y}])
        self.assertEqual(run.go("round"), SECOND_ROUND)
        self.assertEqual(run.go("out"), [])
        self.assertEqual([run.fork, run.end], [("if", (1,)), None])
        self.assertEqual(run.go("no"), NO)
        self.assertEqual(self.state(run), [
            END, ("done",), ["round", "round", "out", "no"], BEGINNING + FIRST_ROUND + SECOND_ROUND + NO,
            {"log": log + [(), ()]}, {"a": A, "j": V, "x": X}])

    def test_left(self):
        run = Run(sample())
        run.go("out")
        self.assertEqual(run.go("yes"), YES)
        self.assertEqual([run.fork, run.end, run.results()], [("leave", (1, 0, 0)), ("left",), {"a": A, "x": X}])
        self.assertEqual(list(run.written()), ["log", "out"])
        self.fails(NoWord, run.go, "out", word="out")
        self.assertEqual(run.back(), "yes")
        self.assertEqual([run.fork, run.end, run.written()], [("if", (1,)), None, {"log": [(A, X)]}])

    def test_error(self):
        for bad in ([z(3)], (z(3), X, z(3))):
            run = Run(sample(), bad)
            run.go("round")
            self.assertEqual(run.go("round"), SECOND_ROUND)
            self.assertEqual(self.state(run), [
                None, ("error", "h"), ["round", "round"], BEGINNING + FIRST_ROUND + SECOND_ROUND,
                {"log": [(A, X), (), ()]}, {}])
            for word in ("round", "out", "", *any_values()):
                self.assertIs(self.fails(NoWord, run.go, word, word=word).word, word)
            self.assertEqual(run.back(), "round")
            self.assertEqual([run.fork, run.end, run.choices()], [("again", (0,)), None, ["round"]])
            self.assertEqual([run.events(), run.go("out")], [BEGINNING + FIRST_ROUND, []])
        run = Run(sample(), [Y])
        self.assertEqual(run.go("round"), FIRST_ROUND[:3])
        self.assertEqual([run.events(), run.written()], [BEGINNING + FIRST_ROUND[:3], {"log": [(A, X)]}])

    def test_error_in_the_first_stretch(self):
        program = Program(["a"], [make("x", "f", "a"), ("write", "c", []), ("check", "x"), ("write", "c", []),
                                  ("loop", [], [])])
        run = Run(program, [X])
        told = [("make", "x", X), ("write", "c", ()), ("check", "x", X)]
        self.assertEqual(self.state(run), [None, ("error", "f"), [], told, {"c": [()]}, {}])
        self.fails(NoWord, run.go, "round", word="round")
        self.fails(Nothing, run.back)
        self.assertEqual(self.state(run), [None, ("error", "f"), [], told, {"c": [()]}, {}])
        self.assertEqual(self.state(run.copied()), self.state(run))

    def test_ended_at_once(self):
        for rows, fork, end in [([], END, ("done",)), ([("leave",)], ("leave", (0,)), ("left",))]:
            run = Run(Program(["a"], rows))
            self.assertEqual(self.state(run), [fork, end, [], [], {}, {"a": A}])
            self.fails(NoWord, run.go, "out", word="out")
            self.fails(NoWord, run.go, "", word="")
            self.fails(Nothing, run.back)

    def test_words_that_may_not_be_chosen(self):
        run = Run(sample())
        for words in (["round"], ["round"], ["out"], ["no"]):
            before = self.state(run)
            for word in ["yes", "no", "round", "out", "", "start", *any_values()]:
                allowed = {"first": "round out", "again": "round out", "if": "yes no"}.get(run.fork[0], "").split()
                if word not in allowed:
                    self.assertIs(self.fails(NoWord, run.go, word, word=word).word, word)
                    self.assertEqual(self.state(run), before)
            run.go(words[0])

    def test_back(self):
        run, states = Run(sample()), []
        words = ["round", "round", "out", "no"]
        for word in words:
            states.append(self.state(run))
            run.go(word)
        for word in words[::-1]:
            self.assertEqual(run.back(), word)
            self.assertEqual(self.state(run), states.pop())
        self.fails(Nothing, run.back)
        self.assertEqual(run, Run(sample()))
        self.assertEqual([run.go("out"), run.go("no")], [[], NO])

    def test_copied(self):
        run = Run(sample(), [z(3)])
        run.go("round")
        other = run.copied()
        self.assertEqual([self.state(other), other == run], [self.state(run), True])
        before = self.state(run)
        other.go("round")
        self.assertEqual([self.state(run), other == run], [before, False])
        self.assertEqual(other.end, ("error", "h"))
        other.back(), other.back()
        self.assertEqual(self.state(run), before)
        run.back()
        self.assertEqual([self.state(other), other == run], [self.state(run), True])
        run.go("out"), run.go("yes")
        self.assertEqual(other.choices(), [])

    def test_what_is_given_is_copied_and_what_is_told_is_new(self):
        bad = [z(3)]
        run = Run(sample(), bad)
        bad[0] = z(2)
        run.go("round").clear()
        before = self.state(run)
        run.choices().append("out"), run.events().clear(), run.results().clear()
        run.written()["log"].clear(), run.written().clear()
        self.assertEqual(self.state(run), before)
        self.assertEqual(run.copied().end, None)
        run.go("round")
        self.assertEqual(run.end, ("error", "h"))

    def test_equal(self):
        one = Run(sample(), [X, Y])
        self.assertIs(one == Run(sample(), (Y, X, Y)), True)
        self.assertIs(one != Run(sample(), (Y, X, Y)), False)
        self.assertIs(Run(sample()) == Run(Program(("a",), sample().rows()), []), True)
        for other in (Run(sample()), Run(sample(), [X]), Run(sample(), [X, Y, V]), Run(sample().out((4,)), [X, Y])):
            self.assertIs(one == other, False)
            self.assertIs(one != other, True)
        other = Run(sample(), [X, Y])
        other.go("out")
        self.assertIs(one == other, False)
        one.go("round")
        self.assertIs(one == other, False)
        one.back(), one.go("out")
        self.assertIs(one == other, True)
        for thing in [*any_values(), sample(), ["out"], (sample(), [X, Y], ["out"])]:
            self.assertIs(one == thing, False)

    def test_properties(self):
        for name in ("fork", "end"):
            self.assertIsInstance(vars(Run)[name], property)

    def test_as_told_by_the_model(self):
        for seed in range(60):
            program = model.Maker(seed).program()
            for choices in model.choices_up_to(program, 4)[:40]:
                checked = [event[2] for event in model.Machine(program, choices).events
                           if event[0] == "check" and event[2][0] == "made"]
                for bad in ([], checked[-1:]):
                    machine = model.Machine(program, choices, bad)
                    run = Run(program, bad)
                    told = run.events()
                    for word in choices[:machine.used]:
                        told += run.go(word)
                    self.assertEqual([run.fork, run.end, run.events(), run.written()],
                                     [machine.fork, machine.end, machine.events, machine.writes])
                    self.assertEqual(told, machine.events)
                    sight = in_sight_at(program, run.fork) if run.fork is not None else []
                    self.assertEqual(run.results(), {name: machine.held[name] for name in sight})

    def test_long_choices(self):
        run = Run(sample())
        words = ["round"] * 198 + ["out", "no"]
        for word in words:
            run.go(word)
        self.assertEqual([len(run.events()), len(run.written()["log"])], [2 + 7 + 197 * 5 + 3, 199])
        self.assertEqual(run.events(), events(sample(), words))
        self.assertEqual(play(sample(), words, [z(190)])[1], ("error", "h"))
        self.assertEqual(stops_at(sample(), words, [z(190)]), ((2, 1, 4), 189))


if __name__ == "__main__":
    unittest.main()
