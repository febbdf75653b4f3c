"""Point 52: things that are followed, and stands at forks."""

import itertools
import random
import unittest

from movedchecks.errors import BadChoices, TooMany, Unlike
from movedchecks.programs import Program
from movedchecks.stands import stand, things
from tests import telling
from tests.cases import Case, full_of_things
from tests.makers import Dense
from tests.model import choices_up_to

A = ("in", "a")
LEAVE = ("leave",)
IF = ("if", [], [], [])
LOG, OUT = ("write", "log", ["a"]), ("write", "out", ["a"])


def make(name, word, *args):
    return ("make", name, word, list(args))


def made(word, *parts):
    return ("made", word, parts)


def mark(channel, index):
    return ("mark", channel, index)


X, Y = made("f", A), made("g", A)
MAKES = [make("x", "f", "a"), make("y", "g", "a")]
CHECK_X, CHECK_Y = ("check", "x"), ("check", "y")


def program(*rows):
    return Program(["a"], MAKES + list(rows))


class ThingsTest(Case):
    def told(self, one, other, found):
        for first, second in ((one, other), (other, one)):
            for _ in range(2):
                self.assertEqual(things(first, second), found)
                things(first, second).clear()

    def test_one_program(self):
        one = program(CHECK_Y, ("check", "a"), CHECK_X, CHECK_X, ("write", "log", ["a", "x"]), LOG)
        self.told(one, one, [("check", X), ("check", Y), ("order", X, Y), ("write", "log", 0, A), ("write", "log", 1, X)])
        self.told(Program([], []), Program([], []), [])

    def test_those_of_both(self):
        self.told(program(CHECK_X), program(CHECK_Y, LOG), [("check", X), ("check", Y), ("order", X, Y), ("write", "log", 0, A)])
        self.told(program(OUT), program(LOG), [("write", "log", 0, A), ("write", "out", 0, A)])

    def test_like_words_have_no_order(self):
        one = Program(["a", "b"], [make("x", "f", "a"), make("y", "f", "b"), CHECK_X, CHECK_Y])
        self.told(one, one, [("check", X), ("check", made("f", ("in", "b")))])

    def test_all_faces(self):
        one = Program(["a"], [("read", "r", "c"), make("x", "f", "r", "r"), make("y", "e", "r"), CHECK_X, CHECK_Y,
                              ("write", "d", ["a", "x"])])
        c = [mark("c", index) for index in range(3)]
        self.told(one, one, [
            ("check", made("e", c[0])), ("check", made("f", c[0], c[0])), ("check", made("f", c[0], c[1])),
            ("order", made("e", c[0]), made("f", c[0], c[0])), ("order", made("e", c[0]), made("f", c[0], c[1])),
            ("order", made("e", c[0]), made("f", c[1], c[0])), ("order", made("e", c[0]), made("f", c[1], c[1])),
            ("order", made("e", c[0]), made("f", c[1], c[2])),
            ("write", "d", 0, A), ("write", "d", 1, made("f", c[0], c[0])), ("write", "d", 1, made("f", c[0], c[1])),
        ])

    def test_rows_that_no_run_comes_to(self):
        one = Program(["a"], [("if", [LEAVE], [LEAVE], []), make("x", "f", "a"), CHECK_X, ("write", "c", ["x"])])
        self.told(one, one, [("check", X), ("write", "c", 0, X)])

    def test_random_pairs(self):
        lengths = []
        for seed in range(60):
            maker = Dense(seed)
            one, other = maker.pair() if seed % 2 else [maker.dense()] * 2
            found = telling.things(one, other)
            lengths.append(len(found))
            self.told(one, other, found)
        self.assertGreater(max(lengths), 12)

    def test_too_many(self):
        one, other, more = full_of_things()
        for pair in ((one, other), (other, one)):
            self.assertEqual(len(things(*pair)), 300)
        for pair in ((one, more), (more, one)):
            self.fails(TooMany, things, *pair, most=300)

    def test_unlike(self):
        one, _, more = full_of_things()
        unlike = Program(["a"], more.rows() + [LEAVE])
        for other in (unlike, Program([], []), Program(["a", "b"], one.rows())):
            for pair in ((more, other), (other, more)):
                self.fails(Unlike, things, *pair)


class StandTest(Case):
    """Stands that are told by hand, all of them of the thing `check` or those given, both ways round."""

    def told(self, one, other, thing, numbers, choices, found, turned=None, **number):
        kept = (dict(numbers), list(choices))
        for pair, wanted in (((one, other), found), ((other, one), turned)):
            for words in (choices, tuple(choices)) if wanted is not None else ():
                self.assertEqual(stand(*pair, thing, numbers, words, **number), wanted)
                given = dict(numbers), list(words)
                self.assertEqual(stand(*pair, thing, *given, **number), wanted)
                given[0].clear(), given[1].clear()
                self.assertEqual(stand(*pair, thing, numbers, words, **number), wanted)
        self.assertEqual((numbers, list(choices)), kept)

    def test_where_choices_lead(self):
        one = program(("loop", [make("z", "h", "a")], [IF]), make("w", "w"))
        check, x, y = ("check", Y), ("x", X), ("y", Y)
        for choices, fork in (([], ("first", (0,))), (["round"], ("if", (0, 1, 0))), (["round", "no"], ("again", (0,))),
                              (["round", "no", "round"], ("if", (0, 1, 0))), (["out"], ("end", ()))):
            self.told(one, one, check, {}, choices, (fork, (), (y,), (y,), ()))
        both = ("order", X, Y)
        self.told(one, one, both, {}, [], (("first", (0,)), (), (x, y), (x, y), ()))
        z, w = ("z", made("h", A)), ("w", made("w"))
        self.told(one, one, ("check", made("h", A)), {}, ["round"], (("if", (0, 1, 0)), (), (z,), (z,), ()))
        self.told(one, one, ("check", made("w")), {}, ["out"], (("end", ()), (), (w,), (w,), ()))
        self.told(one, one, ("check", made("w")), {}, ["round", "yes"], (("again", (0,)), (), (), (), ()))

    def test_names_hold_parts(self):
        rows = [("read", "r", "c"), make("x", "f", "r", "a"), ("if", [make("k", "k")], [], [("u", "x", "r"), ("v", "a", "a")]), IF]
        one = Program(["a"], rows)
        other = Program(["a"], [("read", "s", "d"), ("read", "t", "c"), *rows[:1], ("if", [], [], [("w", "s", "t")]), IF])
        check = ("check", made("f", mark("c", 0), A))
        zero, whole = {mark("c", 0): 0}, check[1]
        self.told(one, other, check, zero, ["yes"], (
            ("if", (1,)), ("0",), (("r", mark("c", 0)), ("u", whole), ("v", A), ("x", whole)),
            (("r", mark("c", 0)), ("t", mark("c", 0))), ()))
        self.told(one, other, check, zero, ["no"], (
            ("if", (1,)), ("0",), (("r", mark("c", 0)), ("u", mark("c", 0)), ("v", A), ("x", whole)),
            (("r", mark("c", 0)), ("t", mark("c", 0)), ("w", mark("c", 0))), ()))
        # A mark with a number that was not read yet stands for nothing that a name has.
        self.told(one, other, check, {mark("c", 0): 3}, ["yes"], (("if", (1,)), ("later",), (("v", A),), (), ()))

    def test_unlike_marks(self):
        one = Program(["a"], [("read", "r", "c"), ("write", "c", []), ("read", "s", "c"), make("x", "f", "r", "s"), IF])
        other = one.moved((1,), (0,))
        check = ("check", made("f", mark("c", 0), mark("c", 1)))
        for numbers, moments, holds, others in (
            ((0, 1), ("gone", "0"), ["r", "s", "x"], ["", "rs"]), ((1, 0), ("0", "gone"), ["s", "r"], ["rs", ""]),
            ((2, 5), ("later", "later"), ["", ""], ["", ""]),
        ):
            names = []
            for told in (holds, others):
                held = [(name, mark("c", index)) for index in (0, 1) for name in told[index]]
                names.append(tuple(sorted(held + [("x", check[1])] * (len(told) > 2))))
            self.told(one, other, check, {mark("c", 0): numbers[0], mark("c", 1): numbers[1]}, [],
                      (("if", (0,)), moments, *names, ()))

    def test_moments_of_both_counts(self):
        one, other = program(IF, LOG, LOG, LOG), program(LOG, LOG, IF, LOG)
        check = ("check", made("k", mark("log", 0)))
        for number, mine, theirs in ((0, "0", "-2"), (1, "1", "-1"), (2, "2", "0"), (3, "later", "later")):
            fork = ("if", (0,))
            numbers = {mark("log", 0): number}
            self.told(one, other, check, numbers, [], (fork, (mine,), (), (), ()), (fork, (theirs,), (), (), ()))
            end = ("gone",) if number < 3 else ("0",)
            self.told(one, other, check, numbers, ["no"], (("end", ()), end, (), (), ()), (("end", ()), end, (), (), ()))
        self.told(one, other, ("check", made("k", mark("none", 0))), {mark("none", 0): 0}, ["no"],
                  (("end", ()), ("0",), (), (), ()))
        self.told(one, other, ("check", made("k", mark("none", 0))), {mark("none", 0): 1}, ["no"],
                  (("end", ()), ("later",), (), (), ()))

    def test_check(self):
        check, at, x, end = ("check", X), ("if", (0,)), (("x", X),), ("end", ())

        def seen(side, *owed):
            return (at, (), x, x, (side, owed))

        nothing = (at, (), x, x, ())
        self.told(program(IF), program(IF), check, {}, [], nothing, nothing)
        self.told(program(IF), program(IF), check, {}, ["no"], (end, (), x, x, ()))
        self.told(program(CHECK_X, IF), program(CHECK_X, CHECK_X, IF), check, {}, [], "done", "done")
        self.told(program(LOG, CHECK_X, IF), program(CHECK_X, LOG, IF), check, {}, [], "broken", "broken")
        self.told(program(LOG, CHECK_X, OUT, IF), program(OUT, CHECK_X, LOG, IF), check, {}, [], "broken", "broken")
        self.told(program(CHECK_X, LOG, CHECK_X, IF), program(CHECK_X, LOG, IF), check, {}, [], "done", "done")
        self.told(program(CHECK_X, IF), program(IF), check, {}, [], seen(0), seen(1))
        self.told(program(LOG, CHECK_X, IF), program(IF), check, {}, [], seen(0, ("log", 1)), seen(1, ("log", 1)))
        self.told(program(LOG, OUT, LOG, CHECK_X, IF), program(LOG, IF), check, {}, [],
                  seen(0, ("log", 1), ("out", 1)), seen(1, ("log", 1), ("out", 1)))
        self.told(program(OUT, CHECK_X, LOG, IF), program(OUT, IF), check, {}, [], seen(0), seen(1))
        self.told(program(CHECK_X, IF), program(LOG, IF), check, {}, [], "broken", "broken")
        self.told(program(OUT, CHECK_X, LOG, IF), program(LOG, IF), check, {}, [], "broken", "broken")
        self.told(program(CHECK_X, IF), program(IF), check, {}, ["yes"], "broken", "broken")
        self.told(program(CHECK_X, IF), program(IF, CHECK_X), check, {}, ["yes"], "done", "done")
        self.told(program(CHECK_X), program(), check, {}, [], "broken", "broken")
        self.told(program(CHECK_X, LEAVE), program(LEAVE), check, {}, [], "broken", "broken")

    def test_order(self):
        both, at, end = ("order", X, Y), ("if", (0,)), ("end", ())
        names = (("x", X), ("y", Y))

        def seen(*what):
            return (at, (), names, names, what)

        self.told(program(IF), program(IF), both, {}, [], seen(), seen())
        self.told(program(), program(), both, {}, [], (end, (), names, names, ()))
        self.told(program(CHECK_X, CHECK_Y, IF), program(CHECK_X, IF), both, {}, [], "done", "done")
        self.told(program(CHECK_X, CHECK_Y, IF), program(CHECK_Y, CHECK_X, IF), both, {}, [], "broken", "broken")
        self.told(program(CHECK_X, IF), program(CHECK_Y, IF), both, {}, [], "broken", "broken")
        self.told(program(LOG, CHECK_X, IF), program(CHECK_Y, LOG, IF), both, {}, [], "done", "done")
        self.told(program(LOG, CHECK_X, IF), program(CHECK_X, LOG, IF), both, {}, [], "done", "done")
        self.told(program(CHECK_X, IF), program(IF), both, {}, [], seen(0, 0, ()), seen(1, 0, ()))
        self.told(program(CHECK_Y, CHECK_X, IF), program(IF), both, {}, [], seen(0, 1, ()), seen(1, 1, ()))
        self.told(program(LOG, OUT, CHECK_Y, IF), program(OUT, IF), both, {}, [],
                  seen(0, 1, (("log", 1),)), seen(1, 1, (("log", 1),)))
        self.told(program(CHECK_X, IF), program(LOG, IF), both, {}, [], "done", "done")
        self.told(program(CHECK_X), program(), both, {}, [], "done", "done")
        self.told(program(CHECK_X, LEAVE), program(LEAVE), both, {}, [], "done", "done")

    def test_write(self):
        write, at, end = ("write", "log", 1, X), ("if", (0,)), ("end", ())
        true, false, short = ("write", "log", ["a", "x"]), ("write", "log", ["x", "y"]), ("write", "log", ["x"])
        x = (("x", X),)

        def seen(*what):
            return (at, (), x, x, what)

        self.told(program(IF), program(IF), write, {}, [], seen(), seen())
        self.told(program(true, IF), program(true, IF), write, {}, [], "done", "done", number=0)
        self.told(program(true, IF), program(true, IF), write, {}, [], "done", "done")
        self.told(program(true, IF), program(true, IF), write, {}, [], seen(), seen(), number=1)
        self.told(program(false, IF), program(short, IF), write, {}, [], "done", "done", number=0)
        self.told(program(true, IF), program(short, IF), write, {}, [], "broken", "broken", number=0)
        self.told(program(false, true, IF), program(false, false, IF), write, {}, [], "broken", "broken", number=1)
        self.told(program(false, true, IF), program(false, false, IF), write, {}, [], "done", "done", number=0)
        self.told(program(true, IF), program(IF), write, {}, [], seen(0, 1, True), seen(1, 1, True))
        self.told(program(false, IF), program(IF), write, {}, [], seen(0, 1, False), seen(1, 1, False), number=0)
        self.told(program(short, short, short, IF), program(IF), write, {}, [], seen(0, 3, False), seen(1, 3, False), number=2)
        self.told(program(short, short, true, IF), program(OUT, short, IF), write, {}, [],
                  seen(0, 2, True), seen(1, 2, True), number=2)
        self.told(program(true), program(), write, {}, [], "broken", "broken")
        self.told(program(false, LEAVE), program(LEAVE), write, {}, [], "broken", "broken")
        self.told(program(true), program(), write, {}, [], (end, (), x, x, ()), number=7)
        self.told(program(true, IF), program(IF, true), write, {}, ["no"], "done", "done")
        self.told(program(OUT), program(OUT), write, {}, [], (end, (), x, x, ()))

    def test_number_means_nothing_for_others(self):
        for number in (-1, 0, 1, 10 ** 30):
            self.told(program(CHECK_X, IF), program(IF), ("check", X), {}, [],
                      (("if", (0,)), (), (("x", X),), (("x", X),), (0, ())), number=number)

    def test_things_of_other_programs(self):
        one, other = program(LOG, IF), program(IF, LOG)
        at, thing = ("if", (0,)), ("check", made("zz", mark("log", 0), ("in", "q")))
        self.told(one, other, thing, {mark("log", 0): 0}, [], (at, ("-1",), (), (), ()), (at, ("0",), (), (), ()))
        self.told(one, other, ("write", "zz", 2, ("in", "q")), {}, [], (at, (), (), (), ()), number=3)
        self.told(one, other, ("order", made("p"), made("q")), {}, ["no"], (("end", ()), (), (), (), ()))

    def test_wrong_choices(self):
        one = program(("loop", [], [IF]), LOG)
        for choices, at in ((["round", "out"], 1), (["yes"], 0), ([""], 0), (["round", "yes", "no"], 2), (["out", "out"], 1),
                            (["round", "no", "out", "round"], 3)):
            for words in (choices, tuple(choices)):
                self.fails(BadChoices, stand, one, one, ("check", X), {}, words, at=at)
        for other in (program(LOG), Program(["a", "b"], one.rows()), program(("loop", [], []), LOG)):
            for pair in ((one, other), (other, one)):
                for choices in ([], ["yes"], ["round", "out"], ["out"]):
                    self.fails(Unlike, stand, *pair, ("check", X), {}, choices)


class RandomStandTest(unittest.TestCase):
    def test_random_pairs(self):
        told = {"done": 0, "broken": 0, (): 0}
        for seed in range(140):
            chance, maker = random.Random(seed), Dense(seed)
            one, other = maker.pair(14)
            roads = choices_up_to(one, 5)
            for thing in telling.some_things(chance, one, other):
                numberings = list(telling.all_numbers(thing, 4))
                for _ in range(12):
                    words, numbers, number = chance.choice(roads), chance.choice(numberings), chance.randrange(4)
                    found = telling.stand(one, other, thing, numbers, words, number)
                    for _ in range(2):
                        self.assertEqual(stand(one, other, thing, numbers, words, number=number), found)
                    key = found if isinstance(found, str) else found[4] and (thing[0], found[4][0])
                    told[key] = told.get(key, 0) + 1
        self.assertEqual({key[:1] for key in told if isinstance(key, tuple)}, {(), ("check",), ("order",), ("write",)})

    def test_two_pairs_by_turns(self):
        pairs = []
        for seed in (5, 8):
            one, other = Dense(seed).pair()
            calls = [(one, other, thing, numbers, words) for thing in things(one, other)[:4]
                     for numbers in list(telling.all_numbers(thing, 2))[:3] for words in choices_up_to(one, 3)[-4:]]
            pairs.append([(call, stand(*call)) for call in calls])
        for first, second in itertools.zip_longest(*pairs):
            for told in (first, second, first):
                if told is not None:
                    self.assertEqual(stand(*told[0]), told[1])


if __name__ == "__main__":
    unittest.main()
