"""Point 30: skeletons, forks, the ways between them, and whole choices."""

import unittest

from movedchecks.errors import NoFork, NoWord
from movedchecks.programs import Program
from movedchecks.skeletons import (
    fork_behind, forks, in_sight_at, is_comparable, is_whole, row_at_fork, skeleton, stretch, whole_choices, words_at
)
from tests import model
from tests.cases import Case
from tests.values import any_values

LEAVE = ("leave",)
START, END = ("start", ()), ("end", ())


def make(name, *args):
    return ("make", name, "f", list(args))


def sample():
    """Ifs, joins, a loop and leaves within one another; the indexes of rows and of paths are unlike."""
    return Program(["a"], [
        make("x", "a"),
        ("if", [("read", "y", "in"), ("loop", [make("o")], [("check", "o"), make("p", "o")]), ("check", "y")],
         [make("z", "x"), ("if", [], [LEAVE], [("q", "z", "x")])], [("j", "y", "q"), ("k", "x", "a")]),
        ("check", "j"),
        ("loop", [make("s", "k")], [("write", "out", ["s"]), ("if", [LEAVE], [], [])]),
        ("write", "out", ["j"]),
    ])


def never_behind():
    """Behind the if nothing is come to, in the loop neither the body nor what is behind a round."""
    return Program(["a"], [
        ("loop", [make("x"), LEAVE], [make("y", "x"), ("if", [], [], [])]),
        ("if", [LEAVE], [("if", [LEAVE], [LEAVE], [])], []),
        make("z"),
        ("loop", [], [("check", "z")]),
    ])


class SkeletonTest(Case):
    def test_skeleton(self):
        self.assertEqual(skeleton(sample()), (
            ("if", (("loop", (), ()),), (("if", (), (("leave",),)),)),
            ("loop", (), (("if", (("leave",),), ()),)),
        ))
        self.assertEqual(skeleton(Program(["a"], [("check", "a"), make("x")])), ())
        self.assertEqual(skeleton(Program([], [])), ())
        self.assertEqual(skeleton(Program([], [LEAVE])), (("leave",),))

    def test_is_comparable(self):
        one = sample()
        for other in (one, one.out((4,)), one.moved((4,), (3, 0, 0)), one.put((0,), ("write", "c", []))):
            self.assertIs(is_comparable(one, other), True)
            self.assertIs(is_comparable(other, one), True)
        names = {name: name for name in ["a", *one.names()]}
        for other in (one.out((3, 1, 1)), one.out((3,)), one.put((0,), ("loop", [], [])), one.put((5,), LEAVE),
                      one.renamed(dict(names, a="b")), Program([], []), Program(["a", "b"], one.rows())):
            self.assertIs(is_comparable(one, other), False)
            self.assertIs(is_comparable(other, one), False)
        self.assertIs(is_comparable(Program(["a", "b"], []), Program(["b", "a"], [("check", "b")])), True)
        self.assertIs(is_comparable(Program([], [("if", [], [], [])]), Program([], [("loop", [], [])])), False)
        self.assertIs(is_comparable(Program([], [("loop", [LEAVE], [])]), Program([], [("loop", [], [LEAVE])])), False)
        self.assertIs(is_comparable(one, one.renamed(dict(names, x="new"))), True)


class ForksTest(Case):
    def test_forks(self):
        self.assertEqual(forks(sample()), [
            ("again", (0, 0, 0)), ("again", (1,)), END, ("first", (0, 0, 0)), ("first", (1,)), ("if", (0,)),
            ("if", (0, 1, 0)), ("if", (1, 1, 0)), ("leave", (0, 1, 0, 1, 0)), ("leave", (1, 1, 0, 0, 0)), START,
        ])
        self.assertEqual(forks(Program([], [])), [END, START])
        self.assertEqual(forks(Program(["a"], [("check", "a"), LEAVE])), [("leave", (0,)), START])

    def test_forks_that_no_choices_come_to(self):
        self.assertEqual(forks(never_behind()), [
            ("first", (0,)), ("if", (1,)), ("if", (1, 1, 0)), ("leave", (0, 0, 0)), ("leave", (1, 0, 0)),
            ("leave", (1, 1, 0, 0, 0)), ("leave", (1, 1, 0, 1, 0)), START,
        ])
        body = Program([], [("loop", [], [LEAVE])])
        self.assertEqual(forks(body), [END, ("first", (0,)), ("leave", (0, 1, 0)), START])
        one_leave = Program([], [("if", [LEAVE], [], []), ("loop", [], [("if", [LEAVE], [LEAVE], [])])])
        self.assertEqual(forks(one_leave), [
            END, ("first", (1,)), ("if", (0,)), ("if", (1, 1, 0)), ("leave", (0, 0, 0)), ("leave", (1, 1, 0, 0, 0)),
            ("leave", (1, 1, 0, 1, 0)), START,
        ])

    def test_forks_are_those_of_runs(self):
        for seed in range(60):
            program = model.Maker(seed).program(most=10)
            found = {START}
            for choices in model.choices_up_to(program, 8):
                found |= {fork for fork, _ in model.Machine(program, choices).forks}
            if len(program) < 9:
                self.assertEqual(forks(program), sorted(found))
            self.assertLessEqual(found, set(forks(program)))

    def test_words_at(self):
        for fork, words in {
            START: [""], END: [], ("if", (0,)): ["no", "yes"], ("first", (3, 1, 0)): ["out", "round"],
            ("again", (2,)): ["out", "round"], ("leave", (0, 0, 0)): [],
        }.items():
            words_at(fork).append("more")
            self.assertEqual(words_at(fork), words)

    def test_row_at_fork(self):
        places = {
            ("again", (0, 0, 0)): (1, 0, 1), ("again", (1,)): (3,), END: None, ("first", (0, 0, 0)): (1, 0, 1),
            ("first", (1,)): (3,), ("if", (0,)): (1,), ("if", (0, 1, 0)): (1, 1, 1), ("if", (1, 1, 0)): (3, 1, 1),
            ("leave", (0, 1, 0, 1, 0)): (1, 1, 1, 1, 0), ("leave", (1, 1, 0, 0, 0)): (3, 1, 1, 0, 0), START: None,
        }
        for fork in places:
            self.assertEqual(row_at_fork(sample(), fork), places[fork])

    def test_in_sight_at(self):
        sights = {
            ("again", (0, 0, 0)): "aoxy", ("again", (1,)): "ajksx", END: "ajkx", ("first", (0, 0, 0)): "axy",
            ("first", (1,)): "ajkx", ("if", (0,)): "ax", ("if", (0, 1, 0)): "axz", ("if", (1, 1, 0)): "ajksx",
            ("leave", (0, 1, 0, 1, 0)): "axz", ("leave", (1, 1, 0, 0, 0)): "ajksx", START: "a",
        }
        program = sample()
        self.assertEqual(sorted(sights), forks(program))
        for fork in sights:
            in_sight_at(program, fork).append("more")
            self.assertEqual(in_sight_at(program, fork), list(sights[fork]))
        self.assertEqual(in_sight_at(Program(["b", "a"], [make("x")]), START), ["a", "b"])
        self.assertEqual(in_sight_at(Program(["b", "a"], [make("x")]), END), ["a", "b", "x"])

    def test_no_fork(self):
        program, unreached = sample(), never_behind()
        others = [("if", (1,)), ("first", (0,)), ("leave", (0,)), ("end", (0,)), ("start", (0,)), ("again", ()),
                  ("if", (False,)), ("first", (True,)), ["if", (0,)], ("if", [0]), ("if", (0, 0, 0)), ("", ())]
        for fork in others + any_values():
            for call in (in_sight_at, row_at_fork):
                self.assertIs(self.fails(NoFork, call, program, fork, at=fork).at, fork)
            for call in (fork_behind, stretch):
                self.assertIs(self.fails(NoFork, call, program, fork, "yes", at=fork).at, fork)
                self.assertIs(self.fails(NoFork, call, program, fork, [], at=fork).at, fork)
        for fork in [END, ("again", (0,)), ("if", (0, 1, 0)), ("first", (2,)), ("again", (2,))]:
            for call in (in_sight_at, row_at_fork):
                self.assertIs(self.fails(NoFork, call, unreached, fork, at=fork).at, fork)
            for call in (fork_behind, stretch):
                self.assertIs(self.fails(NoFork, call, unreached, fork, "out", at=fork).at, fork)


class WaysTest(Case):
    WAYS = {
        (START, ""): (("if", (0,)), [("make", "x", "f", ("a",))]),
        (("if", (0,)), "yes"): (("first", (0, 0, 0)), [("read", "y", "in")]),
        (("if", (0,)), "no"): (("if", (0, 1, 0)), [("make", "z", "f", ("x",))]),
        (("first", (0, 0, 0)), "round"): (
            ("again", (0, 0, 0)), [("make", "o", "f", ()), ("check", "o"), ("make", "p", "f", ("o",))]),
        (("again", (0, 0, 0)), "round"): (("again", (0, 0, 0)), [("check", "o"), ("make", "p", "f", ("o",))]),
        (("first", (0, 0, 0)), "out"): (
            ("first", (1,)), [("check", "y"), ("join", "j", "y"), ("join", "k", "x"), ("check", "j")]),
        (("again", (0, 0, 0)), "out"): (
            ("first", (1,)), [("check", "y"), ("join", "j", "y"), ("join", "k", "x"), ("check", "j")]),
        (("if", (0, 1, 0)), "yes"): (
            ("first", (1,)), [("join", "q", "z"), ("join", "j", "q"), ("join", "k", "a"), ("check", "j")]),
        (("if", (0, 1, 0)), "no"): (("leave", (0, 1, 0, 1, 0)), []),
        (("first", (1,)), "round"): (("if", (1, 1, 0)), [("make", "s", "f", ("k",)), ("write", "out", ("s",))]),
        (("again", (1,)), "round"): (("if", (1, 1, 0)), [("write", "out", ("s",))]),
        (("first", (1,)), "out"): (END, [("write", "out", ("j",))]),
        (("again", (1,)), "out"): (END, [("write", "out", ("j",))]),
        (("if", (1, 1, 0)), "yes"): (("leave", (1, 1, 0, 0, 0)), []),
        (("if", (1, 1, 0)), "no"): (("again", (1,)), []),
    }

    def test_all_ways(self):
        program = sample()
        self.assertEqual(
            sorted(self.WAYS), sorted((fork, word) for fork in forks(program) for word in words_at(fork)),
        )
        for (fork, word), (following, deeds) in self.WAYS.items():
            self.assertEqual(fork_behind(program, fork, word), following)
            stretch(program, fork, word).append(1)
            self.assertEqual(stretch(program, fork, word), deeds, (fork, word))

    def test_no_rows(self):
        program = Program([], [])
        self.assertEqual([fork_behind(program, START, ""), stretch(program, START, "")], [END, []])
        program = Program([], [("loop", [], [])])
        self.assertEqual(fork_behind(program, ("again", (0,)), "round"), ("again", (0,)))
        self.assertEqual(fork_behind(program, ("again", (0,)), "out"), END)

    def test_lists_that_end_together(self):
        check = ("check", "a")
        program = Program(["a"], [
            ("loop", [("if", [], [], [("i", "a", "a")])],
             [("if", [], [("if", [], [], [("x", "a", "i")])], [("z", "i", "x"), ("y", "a", "a")]), check]),
        ])
        self.assertEqual(stretch(program, ("if", (0, 0, 0)), "no"), [("join", "i", "a")])
        self.assertEqual(fork_behind(program, ("if", (0, 0, 0)), "no"), ("if", (0, 1, 0)))
        self.assertEqual(
            stretch(program, ("if", (0, 1, 0, 1, 0)), "no"),
            [("join", "x", "i"), ("join", "z", "x"), ("join", "y", "a"), check],
        )
        self.assertEqual(
            stretch(program, ("if", (0, 1, 0)), "yes"), [("join", "z", "i"), ("join", "y", "a"), check],
        )
        self.assertEqual(fork_behind(program, ("if", (0, 1, 0)), "yes"), ("again", (0,)))
        self.assertEqual(stretch(program, ("first", (0,)), "round"), [])

    def test_no_word(self):
        program = sample()
        for fork in forks(program):
            for word in ["yes", "no", "round", "out", "", "start", *any_values()]:
                if not (isinstance(word, str) and word in words_at(fork)):
                    self.assertIs(self.fails(NoWord, fork_behind, program, fork, word, word=word).word, word)
                    self.assertIs(self.fails(NoWord, stretch, program, fork, word, word=word).word, word)


class WholeTest(Case):
    def test_is_whole(self):
        program = sample()
        for choices in [["yes", "out", "out"], ["no", "no"], ["no", "yes", "round", "yes"],
                        ["yes", "round", "round", "out", "round", "no", "round", "no", "out"]]:
            for right in (choices, tuple(choices)):
                self.assertIs(is_whole(program, right), True)
                self.assertIs(is_whole(program, right[:-1]), False)
                for more in ("yes", "out", "", None):
                    self.assertIs(is_whole(program, [*right, more]), False)
                for wrong in ("yes", "no", "round", "out", "", None, ["yes"], 1):
                    for at in range(len(right)):
                        other = [*right[:at], wrong, *right[at + 1:]]
                        self.assertIs(is_whole(program, other), model.Machine(program, other).end is not None
                                      and model.Machine(program, other).wrong is None)
        for thing in any_values():
            self.assertIs(is_whole(program, thing), False)
        for thing in any_values() + [["yes"]]:
            self.assertIs(is_whole(Program([], []), thing), thing in ([], ()))
        self.assertIs(is_whole(Program([], [LEAVE]), []), True)
        self.assertIs(is_whole(Program([], [("if", [], [], [])]), "yes"), False)

    def test_whole_choices(self):
        program = Program([], [("if", [("loop", [], [])], [LEAVE], [])])
        self.assertEqual([list(whole_choices(program, most)) for most in range(4)], [
            [], [["no"]], [["no"], ["yes", "out"]], [["no"], ["yes", "out"], ["yes", "round", "out"]],
        ])
        for rows in ([], [LEAVE], [("read", "x", "c")]):
            for most in (0, 1, 12):
                self.assertEqual(list(whole_choices(Program([], rows), most)), [[]])

    def test_whole_choices_as_told_by_the_model(self):
        for seed in range(60):
            program = model.Maker(seed).program()
            for most in (0, 1, 2, 6):
                self.assertEqual(list(whole_choices(program, most)), model.whole_up_to(program, most))
        program = Program([], [("loop", [], [("if", [], [LEAVE], [])])])
        found = list(whole_choices(program, 12))
        self.assertEqual(found, sorted(found, key=lambda choices: (len(choices), choices)))
        self.assertEqual(len(found), 12)

    def test_left_early_and_begun_twice(self):
        program = sample()
        every = list(whole_choices(program, 6))
        one, other = whole_choices(program, 6), whole_choices(program, 6)
        for choices in every:
            told = next(one)
            self.assertEqual(told, choices)
            told.clear()
            self.assertEqual(next(other), choices)
            self.assertEqual(next(whole_choices(program, 6)), every[0])
        self.assertRaises(StopIteration, next, one)
        left = whole_choices(program, 12)
        next(left)
        left.close()
        self.assertEqual(list(whole_choices(program, 6)), every)


if __name__ == "__main__":
    unittest.main()
