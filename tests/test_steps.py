"""Point 53: the stands at the beginning, and what comes behind a stand with a word."""

import itertools
import random
import unittest

from movedchecks.errors import NoLags, NoWord, Unlike
from movedchecks.lags import lags
from movedchecks.programs import Program
from movedchecks.skeletons import words_at
from movedchecks.stands import things
from movedchecks.steps import beginning, behind
from tests import telling
from tests.cases import Case
from tests.makers import Dense
from tests.values import any_values

A, START, END = ("in", "a"), ("start", ()), ("end", ())
LEAVE, IF = ("leave",), ("if", [], [], [])
LOG, OUT = ("write", "log", ["a"]), ("write", "out", ["a"])


def make(name, word, *args):
    return ("make", name, word, list(args))


def made(word, *parts):
    return ("made", word, parts)


def mark(channel, index=0):
    return ("mark", channel, index)


X, Y = made("f", A), made("g", A)
MAKES = [make("x", "f", "a"), make("y", "g", "a")]
CHECK_X, CHECK_Y = ("check", "x"), ("check", "y")
BOTH = (("x", X), ("y", Y))


def program(*rows):
    return Program(["a"], MAKES + list(rows))


class BeginningTest(Case):
    def told(self, thing, *moments):
        one = program()
        for _ in range(2):
            self.assertEqual(beginning(one, one, thing), [(START, told, (), (), ()) for told in moments])
            beginning(one, one, thing).clear()

    def test_beginning(self):
        self.told(("check", X), ())
        self.told(("check", made("f", mark("c"))), ("0",), ("later",))
        self.told(("write", "d", 0, mark("c")), ("0",), ("later",))
        two = [("0", "later"), ("later", "0"), ("later", "later")]
        self.told(("check", made("f", mark("c"), mark("c", 1))), *two)
        self.told(("check", made("f", mark("c"), mark("d"))), ("0", "0"), *two)
        self.told(("order", made("f", mark("c"), mark("c", 1)), made("g", mark("c", 2))),
                  *[tuple(["0" if place == zero else "later" for place in range(3)]) for zero in (0, 1, 2, None)])
        four = ("order", made("f", mark("d"), mark("c")), made("g", mark("c", 1), mark("d", 1)))
        self.told(four, *[(*mine, *theirs) for mine in two for theirs in two])

    def test_random_pairs(self):
        for seed in range(40):
            one, other = Dense(seed).pair()
            if lags(one, other) is not None:
                for thing in things(one, other):
                    self.assertEqual(beginning(one, other, thing), telling.beginning(thing))

    def test_errors(self):
        one = program(IF)
        for other in (program(), Program(["b"], [IF]), program(LOG, LEAVE)):
            for pair in ((one, other), (other, one)):
                self.fails(Unlike, beginning, *pair, ("check", X))
        for pair in ((one, program(IF, LOG)), (program(IF, LOG), one)):
            self.fails(NoLags, beginning, *pair, ("check", X))


class BehindTest(Case):
    def told(self, one, other, thing, now, word, found, truth=False):
        """What comes behind a stand, told here and in the plain telling; twice, as lists are new."""
        self.assertEqual(telling.behind(one, other, thing, now, word), (sorted(found), truth))
        for _ in range(2):
            told = behind(one, other, thing, now, word)
            self.assertEqual(told, (sorted(found), truth))
            self.assertIs(type(told[1]), bool)
            told[0].clear()

    def test_check_from_nothing(self):
        check, start, at = ("check", X), (START, (), (), (), ()), ("if", (0,))
        x = (("x", X),)
        self.told(program(IF), program(IF), check, start, "", [(at, (), x, x, ())])
        self.told(program(CHECK_X, IF), program(CHECK_X, IF), check, start, "", [])
        self.told(program(CHECK_X, IF), program(IF, CHECK_X), check, start, "", [(at, (), x, x, (0, ()))])
        self.told(program(IF, CHECK_X), program(CHECK_X, IF), check, start, "", [(at, (), x, x, (1, ()))])
        self.told(program(LOG, CHECK_X, IF), program(IF, LOG), check, start, "", [(at, (), x, x, (0, (("log", 1),)))])
        self.told(program(LOG, CHECK_X, IF), program(CHECK_X, LOG, IF), check, start, "", [], True)
        self.told(program(CHECK_X, IF, LOG), program(LOG, IF), check, start, "", [], True)
        self.told(program(CHECK_X), program(), check, start, "", [], True)
        self.told(program(), program(), check, start, "", [(END, (), x, x, ())])

    def test_check_that_is_owed(self):
        check, at, x = ("check", X), ("if", (0,)), (("x", X),)

        def now(*owed, side=0):
            return (at, (), x, x, (side, owed))

        one = program(LOG, OUT, LOG, IF)
        owes, nothing = (("log", 2), ("out", 1)), ()
        for other, owed, found, truth in (
            (program(IF, LOG, OUT, LOG, CHECK_X), owes, [], False),
            (program(IF, OUT, LOG, LOG, CHECK_X, LOG, OUT, CHECK_X), owes, [], None),
            (program(IF, LOG, CHECK_X, OUT, LOG), owes, [], True),
            (program(IF, LOG, LOG, CHECK_X, OUT), owes, [], True),
            (program(IF, LOG, OUT, LOG), owes, [], True),
            (program(LOG, OUT, LOG, IF, CHECK_X), nothing, [], False),
        ):
            if truth is not None:
                self.told(one, other, check, now(*owed), "yes", found, truth)
                turned = (at, (), x, x, (1, owed))
                self.told(other, one, check, turned, "yes", found, truth)
        more = program(LOG, OUT, LOG, IF, IF)
        late = program(IF, LOG, IF, OUT, LOG, CHECK_X)
        later = ("if", (1,))
        self.told(more, late, check, now(*owes), "no", [(later, (), x, x, (0, (("log", 1), ("out", 1))))])
        self.told(more, late, check, now(("log", 1)), "no", [(later, (), x, x, (0, ()))])
        self.told(more, late, check, now(("out", 1)), "no", [], True)
        self.told(more, late, check, now(), "no", [], True)
        # The side that has checked may check again: only the other one is waited for.
        again = program(LOG, OUT, LOG, IF, CHECK_X, IF)
        self.told(again, late, check, now(*owes), "no", [(later, (), x, x, (0, (("log", 1), ("out", 1))))])

    def test_order(self):
        order, at, later, start = ("order", X, Y), ("if", (0,)), ("if", (1,)), (START, (), (), (), ())

        def now(*seen):
            return (at, (), BOTH, BOTH, seen)

        for mine, theirs, found, truth in (
            ([CHECK_X, IF], [CHECK_X, IF], [], False), ([CHECK_X, CHECK_Y, IF], [CHECK_Y, CHECK_X, IF], [], True),
            ([CHECK_X, LOG, IF], [LOG, CHECK_Y, IF], [], False), ([LOG, IF], [LOG, IF], [now()], False),
            ([LOG, CHECK_Y, CHECK_X, IF], [IF, LOG], [now(0, 1, (("log", 1),))], False),
            ([IF, LOG], [LOG, CHECK_X, IF], [now(1, 0, (("log", 1),))], False),
            ([CHECK_X, IF, LOG], [LOG, IF], [], False), ([CHECK_X], [], [], False), ([CHECK_X, LEAVE], [LEAVE], [], False),
        ):
            self.told(program(*mine), program(*theirs), order, start, "", found, truth)
        one = program(LOG, IF, IF)
        owes = (("log", 1),)
        for rows, owed, found, truth in (
            ([IF, LOG, CHECK_X, IF], owes, [], False), ([IF, LOG, CHECK_Y, CHECK_X, IF], owes, [], True),
            ([IF, CHECK_Y, LOG, IF], owes, [], False), ([IF, LOG, IF], owes, [(later, (), BOTH, BOTH, (0, 0, ()))], False),
            ([IF, LOG, IF], (("log", 2),), [(later, (), BOTH, BOTH, (0, 0, owes))], False),
            ([IF, LOG, CHECK_Y, IF], (), [], False), ([IF, LOG, IF], (), [], False),
        ):
            self.told(one, program(*rows), order, now(0, 0, owed), "yes", found, truth)
        self.told(program(LOG, IF), program(IF, LOG), order, now(0, 0, (("log", 2),)), "yes", [])

    def test_write(self):
        write, at, later = ("write", "log", 0, X), ("if", (0,)), ("if", (1,))
        true, false = ("write", "log", ["x"]), ("write", "log", [])
        x = (("x", X),)

        def now(*seen):
            return (at, (), x, x, seen)

        def then(*seen):
            return (later, (), x, x, seen)

        self.told(program(IF, true, IF), program(IF, true, IF), write, now(), "no", [then()])
        self.told(program(IF, true, IF), program(IF, false, IF), write, now(), "no", [then()], True)
        self.told(program(IF, true, false, IF), program(IF, IF, true, false), write, now(), "no",
                  [then(), then(0, 1, True), then(0, 2, False)])
        self.told(program(IF, IF, true, false), program(IF, false, true, IF), write, now(), "no",
                  [then(), then(1, 1, False), then(1, 2, True)])
        self.told(program(IF, true, false, true, IF), program(IF, true, IF, false, true), write, now(), "no",
                  [then(), then(0, 1, False), then(0, 2, True)])
        # The first write of one was done by other ahead of the fork: its index is less than a count there.
        one, other = program(IF, true, true, IF), program(false, IF, true, IF)
        self.told(one, other, write, now(), "no", [then()])
        self.told(program(IF, true, true, IF), program(false, IF, false, IF), write, now(), "no", [then()], True)
        self.told(one, other, write, now(1, 1, True), "no", [])
        self.told(one, other, write, now(1, 1, False), "no", [], True)
        self.told(one, other, write, now(1, 2, True), "no", [])
        self.told(one, other, write, now(1, 5, True), "no", [then(1, 3, True)])
        self.told(one, other, write, now(0, 1, True), "no", [])
        self.told(one, other, write, now(0, 2, True), "no", [then(0, 1, True)])
        self.told(program(IF, true), program(IF, true), write, now(0, 2, True), "no", [], True)
        self.told(program(IF, true), program(IF, true), write, now(), "no", [(END, (), x, x, ())])

    def test_marks_that_are_later(self):
        one = Program(["a"], [("loop", [], [LOG, ("read", "r", "log"), IF, make("x", "f", "r"), ("check", "x")])])
        check = ("check", made("f", mark("log")))
        first, at, again = ("first", (0,)), ("if", (0, 1, 0)), ("again", (0,))
        held = (("r", mark("log")),)
        self.told(one, one, check, (first, ("later",), (), (), ()), "round",
                  [(at, ("0",), held, held, ()), (at, ("later",), (), (), ())])
        self.told(one, one, check, (first, ("0",), (), (), ()), "round", [(at, ("gone",), (), (), ())])
        self.told(one, one, check, (again, ("gone",), (), (), ()), "round", [(at, ("gone",), (), (), ())])
        self.told(one, one, check, (at, ("0",), held, held, ()), "yes", [])
        self.told(one, one, check, (at, ("0",), held, (), ()), "yes", [(again, ("0",), (), (), (0, ()))])
        self.told(one, one, check, (again, ("0",), (), (), (0, ())), "round", [], True)
        self.told(one, one, check, (again, ("0",), (), (), ()), "out", [(END, ("0",), (), (), ())])

    def test_marks_with_a_lag(self):
        read = ("read", "r", "log")
        one = Program(["a"], [LOG, LOG, IF, read])
        other = Program(["a"], [IF, LOG, LOG, read])
        thing = ("write", "out", 0, mark("log"))
        at, held = ("if", (0,)), (("r", mark("log")),)
        for moment, found in (("0", ("0", held, held)), ("-1", ("gone", (), ())), ("-2", ("gone", (), ())),
                              ("later", ("later", (), ())), ("gone", ("gone", (), ()))):
            self.told(one, other, thing, (at, (moment,), (), (), ()), "yes", [(END, (found[0],), found[1], found[2], ())])
        for moment, found in (("0", ("gone", (), ())), ("1", ("gone", (), ())), ("2", ("0", held, held))):
            self.told(other, one, thing, (at, (moment,), (), (), ()), "yes", [(END, (found[0],), found[1], found[2], ())])
        # Ahead of the stretch the reads of both come at unlike counts.
        early = Program(["a"], [LOG, IF, read, LOG, IF])
        late = Program(["a"], [IF, read, LOG, LOG, IF])
        last = ("if", (1,))
        self.told(early, late, thing, (at, ("0",), (), (), ()), "yes", [(last, ("gone",), held, (), ())])
        self.told(early, late, thing, (at, ("-1",), (), (), ()), "yes", [(last, ("gone",), (), held, ())])
        self.told(early, late, thing, (at, ("later",), (), (), ()), "yes",
                  [(last, ("0",), (), (), ()), (last, ("later",), (), (), ())])

    def test_unlike_marks_of_a_channel(self):
        rows = [LOG, ("read", "r", "log"), LOG, ("read", "s", "log"), IF]
        one = Program(["a"], rows)
        thing = ("check", made("f", mark("log"), mark("log", 1)))
        held = {"0": ("s",), "gone": ("r",), "later": ()}
        found = []
        for moments in itertools.product(held, repeat=2):
            if "later" in moments or moments[0] != moments[1]:
                names = sorted([(name, mark("log", index)) for index in (0, 1) for name in held[moments[index]]])
                found.append((("if", (0,)), moments, tuple(names), tuple(names), ()))
        self.told(one, one, thing, (START, ("later", "later"), (), (), ()), "", found)

    def test_joins_of_the_list_that_is_left(self):
        first = ("if", [make("x", "f", "a")], [("read", "r", "c"), make("y", "g", "r")], [("u", "x", "y"), ("v", "a", "r")])
        one = Program(["a"], [first, IF])
        at, later = ("if", (0,)), ("if", (1,))
        check = ("check", X)
        held = (("u", X), ("v", A))
        self.told(one, one, check, (at, (), (), (), ()), "yes", [(later, (), held, held, ())])
        self.told(one, one, check, (at, (), (), (), ()), "no", [(later, (), (), (), ())])
        other = ("check", made("g", mark("c")))
        held = (("u", other[1]), ("v", mark("c")))
        self.told(one, one, other, (at, ("0",), (), (), ()), "no", [(later, ("0",), held, held, ())])
        self.told(one, one, other, (at, ("later",), (), (), ()), "no", [(later, ("later",), (), (), ())])
        self.told(one, one, other, (at, ("0",), (), (), ()), "yes", [(later, ("0",), (), (), ())])

    def test_once(self):
        one = Program(["a"], [("loop", [make("x", "f", "a"), ("write", "log", ["x"])], [make("y", "g", "x"), IF])])
        check = ("check", made("g", X))
        first, at, again = ("first", (0,)), ("if", (0, 1, 0)), ("again", (0,))
        x, both = (("x", X),), (("x", X), ("y", check[1]))
        self.told(one, one, check, (first, (), (), (), ()), "round", [(at, (), both, both, ())])
        self.told(one, one, check, (again, (), (), x, ()), "round", [(at, (), (), both, ())])
        self.told(one, one, check, (at, (), both, both, ()), "yes", [(again, (), x, x, ())])
        self.told(one, one, check, (again, (), x, x, ()), "out", [(END, (), (), (), ())])
        write = ("write", "log", 0, X)
        self.told(one, one, write, (first, (), (), (), ()), "round", [(at, (), x, x, ())])
        other = Program(["a"], [("loop", [make("x", "f", "a"), ("write", "log", ["a"])], [IF])])
        self.told(one, other, write, (first, (), (), (), ()), "round", [(at, (), x, x, ())], True)
        self.told(one, other, write, (again, (), x, x, ()), "round", [(at, (), x, x, ())])

    def test_names_of_stands_are_believed(self):
        one = program(IF, make("z", "k", "x", "y"), ("check", "z"))
        check = ("check", made("k", A, A))
        at = ("if", (0,))
        self.told(one, one, check, (at, (), (("x", A), ("y", A)), (("x", A),), ()), "no", [], True)
        self.told(one, one, check, (at, (), (("x", A), ("y", A)), (("x", A), ("y", A)), ()), "no", [])
        self.told(one, one, check, (at, (), (("x", A),), (("y", A),), ()), "no",
                  [(END, (), (("x", A),), (("y", A),), ())])

    def test_no_word(self):
        one = program(("loop", [], [IF]), ("if", [LEAVE], [], []))
        check = ("check", X)
        stands = {fork: (fork, (), (), (), ()) for fork in lags(one, one)}
        for fork, now in stands.items():
            for word in any_values() + ["", "yes", "no", "round", "out", fork, now]:
                if word not in words_at(fork):
                    self.fails(NoWord, behind, one, one, check, now, word, word=word)

    def test_errors_in_order(self):
        one, now = program(IF), (("if", (0,)), (), (), (), ())
        for other in (program(), Program(["b"], [IF]), program(LOG, LEAVE)):
            for pair in ((one, other), (other, one)):
                self.fails(Unlike, behind, *pair, ("check", X), now, "out")
        for pair in ((one, program(IF, LOG)), (program(IF, LOG), one)):
            self.fails(NoLags, behind, *pair, ("check", X), now, "out")


class RandomStepsTest(unittest.TestCase):
    def test_random_stands(self):
        truths, kinds = 0, set()
        for seed in range(70):
            chance, maker = random.Random(seed), Dense(seed)
            one, other = maker.pair(13)
            table = lags(one, other)
            for thing in telling.some_things(chance, one, other) if table is not None else []:
                for _ in range(12):
                    now = telling.some_stand(chance, one, other, thing, table)
                    for word in words_at(now[0]):
                        found = telling.behind(one, other, thing, now, word, table)
                        for _ in range(2):
                            self.assertEqual(behind(one, other, thing, now, word), found)
                        truths += found[1]
                        kinds |= {(thing[0], *told[4][:1]) for told in found[0]}
        self.assertGreater(truths, 20)
        self.assertEqual(kinds, {(kind, *side) for kind in ("check", "order", "write") for side in ((), (0,), (1,))})

    def test_two_pairs_by_turns(self):
        pairs = []
        for seed in (5, 8):
            chance, maker = random.Random(seed), Dense(seed)
            one, other = maker.pair()
            stands = [telling.some_stand(chance, one, other, thing, lags(one, other)) for thing in things(one, other)]
            calls = [(one, other, thing, now, word) for thing, now in zip(things(one, other), stands)
                     for word in words_at(now[0])]
            pairs.append([(call, behind(*call)) for call in calls])
        self.assertGreater(min(map(len, pairs)), 2)
        for told in [call for both in zip(*pairs) for call in both] * 2:
            self.assertEqual(behind(*told[0]), told[1])


if __name__ == "__main__":
    unittest.main()
