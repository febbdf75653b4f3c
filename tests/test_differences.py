"""Points 40, 5, 8, 11 and 12: in what two single runs are unlike."""

import itertools
import unittest

from movedchecks.differences import differences, first_checks, is_same, least_bad, normal_form
from movedchecks.errors import BadChoices, MoveError, Unlike
from movedchecks.playing import play
from movedchecks.programs import Program
from tests import model
from tests.cases import Case
from tests.makers import Dense

A = ("in", "a")


def make(name, word, *args):
    return ("make", name, word, list(args))


def made(word, *results):
    return ("made", word, results)


X, Y, Z = made("f", A), made("g", A), made("f", ("in", "b"))
MAKES = [make("x", "f", "a"), make("y", "g", "a"), make("z", "f", "b")]
CHECKS = [("check", "x"), ("check", "y"), ("check", "z")]
LOG, OUT = ("write", "log", ["a"]), ("write", "out", ["x"])


def program(*rows):
    return Program(["a", "b"], MAKES + list(rows))


def looped(*rows):
    """A program that reads, makes and does these rows in each round."""
    return Program(["a"], [
        ("loop", [make("k", "k")], [("read", "r", "log"), make("x", "f", "r"), make("y", "g", "r"), *rows]),
    ])


class FirstChecksTest(unittest.TestCase):
    def test_order_and_counts(self):
        one = program(CHECKS[1], LOG, CHECKS[0], CHECKS[1], OUT, LOG, CHECKS[2], CHECKS[0])
        for _ in range(2):
            self.assertEqual(first_checks(one, []), [
                (Y, ()), (X, (("log", 1),)), (Z, (("log", 2), ("out", 1))),
            ])
        first_checks(one, []).clear()
        self.assertEqual(len(first_checks(one, [])), 3)

    def test_only_made_results_and_each_once(self):
        one = Program(["a"], [("read", "r", "c"), make("x", "f", "a"), make("y", "f", "a"), ("check", "a"),
                              ("check", "r"), ("check", "y"), LOG, ("check", "x")])
        self.assertEqual(first_checks(one, []), [(X, ())])
        self.assertEqual(first_checks(Program(["a"], [("check", "a")]), []), [])
        self.assertEqual(first_checks(Program([], []), ()), [])

    def test_channels_ascend(self):
        one = program(("write", "z", []), ("write", "b", []), ("write", "m", []), ("write", "b", []), CHECKS[0])
        self.assertEqual(first_checks(one, []), [(X, (("b", 2), ("m", 1), ("z", 1)))])

    def test_rounds(self):
        one = looped(("check", "y"), LOG_OF_X, ("check", "x"))
        self.assertEqual(first_checks(one, ["round", "round", "out"]), [
            (made("g", ("seen", "log", 0)), ()), (made("f", ("seen", "log", 0)), (("log", 1),)),
            (made("g", ("seen", "log", 1)), (("log", 1),)), (made("f", ("seen", "log", 1)), (("log", 2),)),
        ])
        self.assertEqual(first_checks(looped(("check", "k"), ("check", "k")), ["round"] * 5 + ["out"]),
                         [(made("k"), ())])


LOG_OF_X = ("write", "log", ["x"])


class NormalFormTest(unittest.TestCase):
    def test_lots(self):
        one = program(CHECKS[2], CHECKS[0], CHECKS[1], LOG, CHECKS[0], OUT)
        writes = {"log": [(A,)], "out": [(X,)]}
        for _ in range(2):
            told = normal_form(one, [])
            self.assertEqual(told, (writes, [((), "f", [X, Z]), ((), "g", [Y])]))
            told[0]["log"].clear(), told[1][0][2].clear()
        self.assertEqual(normal_form(program(CHECKS[0], CHECKS[1], CHECKS[2]), []), (
            {}, [((), "f", [X]), ((), "g", [Y]), ((), "f", [Z])]))
        self.assertEqual(normal_form(program(CHECKS[0], LOG, CHECKS[2]), ()), (
            {"log": [(A,)]}, [((), "f", [X]), ((("log", 1),), "f", [Z])]))
        self.assertEqual(normal_form(Program([], []), []), ({}, []))

    def test_channels_ascend(self):
        one = program(("write", "z", []), ("write", "b", []), ("write", "m", []))
        self.assertEqual(list(normal_form(one, [])[0]), ["b", "m", "z"])


class DifferencesTest(Case):
    def unlike(self, one, other, choices, found, bad):
        for words in (choices, tuple(choices)):
            for first, second in ((one, other), (other, one)):
                differences(first, second, words).append(1)
                self.assertEqual(differences(first, second, words), found)
                self.assertIs(is_same(first, second, words), not found)
                told = least_bad(first, second, words)
                self.assertEqual(told, bad)
                if told is not None:
                    told.append(1)
                self.assertEqual(least_bad(first, second, words), bad)
                self.assertIs(normal_form(first, words) == normal_form(second, words), not found)

    def test_the_same(self):
        one = program(CHECKS[0], LOG, CHECKS[1], OUT)
        self.unlike(one, one, [], [], None)
        self.unlike(one, program(CHECKS[0], LOG, CHECKS[0], CHECKS[1], OUT, CHECKS[1]), [], [], None)
        self.unlike(program(CHECKS[0], CHECKS[2]), program(CHECKS[2], CHECKS[0]), [], [], None)
        self.unlike(program(LOG, OUT), program(OUT, LOG), [], [], None)
        self.unlike(program(("check", "a"), LOG), program(LOG, ("check", "b")), [], [], None)
        self.unlike(Program(["a", "b"], [make("v", "f", "a"), ("check", "v")]), program(CHECKS[0]), [], [], None)

    def test_writes(self):
        self.unlike(program(LOG, LOG), program(LOG), [], [("write", "log", 1)], [])
        self.unlike(program(LOG), program(), [], [("write", "log", 0)], [])
        other = program(LOG, OUT, ("write", "log", ["x"]), LOG)
        self.unlike(program(LOG, OUT, LOG, LOG), other, [], [("write", "log", 1)], [])
        self.unlike(program(OUT), program(LOG), [], [("write", "log", 0), ("write", "out", 0)], [])
        self.unlike(program(("write", "log", ["a", "a"])), program(LOG), [], [("write", "log", 0)], [])

    def test_checks(self):
        self.unlike(program(CHECKS[0]), program(), [], [("check", X)], [X])
        self.unlike(program(CHECKS[0], LOG), program(LOG, CHECKS[0]), [], [("check", X)], [X])
        both = [CHECKS[0], CHECKS[1]]
        self.unlike(program(*both, LOG), program(LOG, *both), [], [("check", X), ("check", Y)], [X])
        self.unlike(program(both[1], LOG, both[0]), program(both[0], LOG, both[1]), [], [
            ("check", X), ("check", Y), ("order", X, Y)], [X])
        self.unlike(program(both[1], both[0], LOG), program(LOG, both[0]), [], [("check", X), ("check", Y)], [X])

    def test_order(self):
        self.unlike(program(*CHECKS), program(*CHECKS[::-1]), [], [("order", X, Y), ("order", Z, Y)], [X, Y])
        self.unlike(program(*CHECKS), program(CHECKS[0], CHECKS[2], CHECKS[1]), [], [("order", Z, Y)], [Z, Y])
        self.unlike(program(CHECKS[0], CHECKS[1]), program(CHECKS[1], CHECKS[0], CHECKS[1]), [], [
            ("order", X, Y)], [X, Y])

    def test_mixed(self):
        self.unlike(program(CHECKS[0], CHECKS[1], LOG, LOG), program(CHECKS[1], CHECKS[0], CHECKS[2], LOG), [], [
            ("check", Z), ("order", X, Y), ("write", "log", 1)], [])
        self.unlike(program(CHECKS[0], CHECKS[1], LOG), program(CHECKS[1], CHECKS[0], CHECKS[2], LOG), [], [
            ("check", Z), ("order", X, Y)], [Z])

    def test_numbers_sort_as_numbers(self):
        rows = [("check", "x"), LOG_OF_X]
        found = differences(looped(*rows), looped(*rows[::-1]), ["round"] * 12 + ["out"])
        self.assertEqual(found, [("check", made("f", ("seen", "log", number))) for number in range(12)])

    def test_long_choices(self):
        choices = ["round"] * 199 + ["out"]
        one = looped(("check", "x"), ("check", "y"), LOG_OF_X)
        other = looped(("check", "y"), ("check", "x"), LOG_OF_X)
        results = [(made("f", ("seen", "log", k)), made("g", ("seen", "log", k))) for k in range(199)]
        self.unlike(one, other, choices, [("order", *pair) for pair in results], list(results[0]))
        self.assertEqual(len(first_checks(one, choices)), 398)
        late = looped(("check", "x"), ("check", "y"), LOG_OF_X, ("if", [("check", "k")], [], []))
        early = looped(("check", "x"), ("check", "y"), LOG_OF_X, ("if", [], [], []))
        choices = ["round", "no"] * 99 + ["round", "yes"]
        self.unlike(late, early, choices[:-1] + ["no", "out"], [], None)
        self.unlike(late, early, [*choices, "out"], [("check", made("k"))], [made("k")])

    def test_unlike(self):
        one = program(("loop", [], []), LOG)
        for other in (program(LOG), program(("if", [], [], []), LOG), Program(["a"], [("loop", [], []), LOG]),
                      program(("loop", [], []), ("leave",)), Program(["a", "c"], [("loop", [], []), LOG])):
            for call in (differences, is_same, least_bad):
                for first, second in ((one, other), (other, one)):
                    self.fails(Unlike, call, first, second, ["out"])
        turned = Program(["b", "a"], one.rows())
        self.assertEqual([differences(one, turned, ["out"]), is_same(one, turned, ["out"]),
                          least_bad(one, turned, ["out"])], [[], True, None])


def plain_checks(program, choices):
    found, counts = [], {}
    for kind, name, worth in model.Machine(program, choices).events:
        if kind == "write":
            counts[name] = counts.get(name, 0) + 1
        elif kind == "check" and worth[0] == "made" and worth not in [result for result, _ in found]:
            found.append((worth, tuple(sorted(counts.items()))))
    return found


def plain_form(program, choices):
    lots = []
    for (counts, word), checks in itertools.groupby(plain_checks(program, choices), lambda check: (check[1], check[0][1])):
        lots.append((counts, word, sorted(result for result, _ in checks)))
    return model.Machine(program, choices).writes, lots


def plain_differences(one, other, choices):
    """What is unlike, by the definition, word by word."""
    mine, theirs = plain_checks(one, choices), plain_checks(other, choices)
    here, there = [check[0] for check in mine], [check[0] for check in theirs]
    found = [("check", result) for result in here + there if (result in here) != (result in there)]
    found += [("check", result) for result, counts in mine if result in there and (result, counts) not in theirs]
    found += [
        ("order", first, second) for first in here for second in here
        if first in there and second in there and first < second and first[1] != second[1]
        and (here.index(first) < here.index(second)) != (there.index(first) < there.index(second))
    ]
    some, others = model.Machine(one, choices).writes, model.Machine(other, choices).writes
    for channel in sorted({*some, *others}):
        rows = list(itertools.zip_longest(some.get(channel, []), others.get(channel, [])))
        at = [index for index, (left, right) in enumerate(rows) if left != right]
        found += [("write", channel, index) for index in at[:1]]
    return sorted(found)


def parting_results(one, other, choices, most=2):
    """All lists of at most so many bad results with which not the same is seen, fewer ones first, then lesser ones."""
    checked = sorted({result for told in (one, other) for result, _ in plain_checks(told, choices)})
    return [
        list(bad) for many in range(min(most, len(checked)) + 1) for bad in itertools.combinations(checked, many)
        if model.Machine(one, choices, bad).seen() != model.Machine(other, choices, bad).seen()
    ]


class SixteenRowsTest(unittest.TestCase):
    """All answers along all whole choices of up to six words, against a plain telling."""

    def pair(self, seed):
        maker = Dense(seed)
        one = maker.dense()
        while len(one) < 16:
            one = maker.dense()
        return one, maker.changed(one, 3) if seed % 3 == 0 else maker.near(one, seed % 5)

    def answers(self, one, other, words):
        return [first_checks(one, words), normal_form(one, words), differences(one, other, words),
                is_same(one, other, words), least_bad(one, other, words)]

    def plain(self, one, other, words):
        bad = parting_results(one, other, words)
        unlike = plain_differences(one, other, words)
        return [plain_checks(one, words), plain_form(one, words), unlike, not unlike, bad[0] if bad else None]

    def test_all_choices_of_six_words(self):
        kinds = set()
        for seed in range(36):
            one, other = self.pair(seed)
            for words in model.whole_up_to(one, 6):
                for both in ((one, other), (other, one)):
                    told = self.plain(*both, words)
                    for _ in range(2):
                        found = self.answers(*both, words)
                        self.assertEqual(found, told)
                        self.assertEqual(list(found[1][0]), sorted(found[1][0]))
                        for part in (found[0], found[1][1], found[2], found[4] or []):
                            part.append(1)
                        found[1][0]["c"] = [1]
                    kinds.add(None if told[4] is None else len(told[4]))
        self.assertEqual(kinds, {None, 0, 1, 2})

    def test_two_pairs_by_turns(self):
        for seed in range(8):
            pairs = [self.pair(seed), self.pair(seed + 8)]
            roads = [model.whole_up_to(one, 6) for one, _ in pairs]
            told = [[self.plain(*both, words) for words in part] for both, part in zip(pairs, roads)]
            for index in range(min(12, *map(len, roads))):
                for place in (0, 1, 0, 1):
                    self.assertEqual(self.answers(*pairs[place], roads[place][index]), told[place][index])

    def test_arguments_stay(self):
        one, other = self.pair(3)
        rows = one.rows(), other.rows()
        for words in model.whole_up_to(one, 4):
            kept = list(words)
            self.answers(one, other, words)
            self.assertEqual(words, kept)
        self.assertEqual((one.rows(), other.rows()), rows)

    def test_wrong_choices(self):
        one, other = self.pair(3)
        for words in model.choices_up_to(one, 4):
            if model.Machine(one, words).end is None:
                for call in (differences, is_same, least_bad):
                    with self.assertRaises(BadChoices) as caught:
                        call(one, other, words)
                    self.assertEqual(caught.exception.at, len(words))
                with self.assertRaises(BadChoices) as caught:
                    normal_form(one, words)
                self.assertEqual(caught.exception.at, len(words))
            else:
                for call in (differences, is_same, least_bad):
                    with self.assertRaises(BadChoices) as caught:
                        call(one, other, words + ["yes"])
                    self.assertEqual(caught.exception.at, len(words))


class GuaranteesTest(unittest.TestCase):
    """Points 5, 8, 11 and 12, as far as they speak of single runs, on random programs."""

    def pairs(self, seeds, most=6):
        for seed in seeds:
            maker = model.Maker(seed)
            one = maker.program(most=12)
            other = maker.changed(one) if seed % 2 else maker.near(one)
            for choices in model.whole_up_to(one, 5)[:most]:
                yield maker, one, other, choices

    def test_one_run(self):
        kinds = set()
        for _, one, other, choices in self.pairs(range(150)):
            unlike = parting_results(one, other, choices, 20)
            self.assertIs(is_same(one, other, choices), not unlike)
            self.assertIs(normal_form(one, choices) == normal_form(other, choices), not unlike)
            bad = least_bad(one, other, choices)
            self.assertEqual(bad, unlike[0] if unlike else None)
            kinds.add(None if bad is None else len(bad))
            if bad is not None:
                self.assertNotEqual(play(one, choices, bad), play(other, choices, bad))
        self.assertEqual(kinds, {None, 0, 1, 2})

    def test_differences_by_their_definition(self):
        for _, one, other, choices in self.pairs(range(150, 260)):
            self.assertEqual(differences(one, other, choices), plain_differences(one, other, choices))

    def test_two_checks_with_a_write_between_them(self):
        for _, one, other, choices in self.pairs(range(120)):
            if is_same(one, other, choices):
                mine, theirs = first_checks(one, choices), first_checks(other, choices)
                for (first, counts), (second, more) in itertools.combinations(mine, 2):
                    if counts != more:
                        self.assertLess(theirs.index((first, counts)), theirs.index((second, more)))

    def test_equal(self):
        for maker, one, other, choices in self.pairs(range(60), 4):
            third = maker.near(other, 1)
            self.assertIs(is_same(one, one, choices), True)
            self.assertIs(is_same(one, other, choices), is_same(other, one, choices))
            if is_same(one, other, choices) and is_same(other, third, choices):
                self.assertIs(is_same(one, third, choices), True)
            try:
                ahead = [("write", "c", ["a"]), ("read", "zz", "c"), ("make", "zy", "f", ["zz"]), ("check", "zy")]
                inner = [Program(p.inputs, [("if", [], p.rows(), [])]) for p in (one, other)]
                begun = [Program(p.inputs, ahead + p.rows()) for p in (one, other)]
            except MoveError:
                continue
            if is_same(one, other, choices):
                self.assertIs(is_same(*inner, ["no", *choices]), True)
                self.assertIs(is_same(*begun, choices), True)

    def test_names(self):
        for _, one, other, choices in self.pairs(range(50), 4):
            names = one.names()
            new = one.renamed({**{name: name for name in one.inputs}, **dict(zip(names, names[1:] + names[:1]))})
            self.assertEqual(differences(new, other, choices), differences(one, other, choices))
            self.assertEqual(normal_form(new, choices), normal_form(one, choices))
            self.assertIs(is_same(one, new, choices), True)


if __name__ == "__main__":
    unittest.main()
