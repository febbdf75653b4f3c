"""Points 80 and 9: moves that are done together, and which of them fit together."""

import itertools
import random
import unittest

from movedchecks.alike import are_alike
from movedchecks.errors import BadDeeds, NotLast, TooMany, Unseen
from movedchecks.lots import barring, done, greatest_lots, lot_parting, needing, right_lots
from movedchecks.programs import Program
from tests import model
from tests.cases import CHECK_X, CHECK_Y, IF, LEAVE, LOG, OUT, X, Y, Case, altered, full_of_things, many_stands, program
from tests.makers import Dense
from tests.sheets import Sheet, checks_of, or_error, plain_addresses
from tests.values import any_values

ASKING = (right_lots, greatest_lots, barring, needing)


def done_plainly(one, deeds):
    sheet = Sheet(one)
    rows = [sheet.take(deed[1]) for deed in deeds]
    for deed, row in zip(deeds, rows):
        if deed[0] == "move":
            sheet.put(deed[2], row)
    return sheet.program()


def drawn_deeds(one, chance, many, reach=None):
    """Deeds of different rows; moves go to gaps near to the row if reach is told."""
    found = []
    for address in chance.sample(plain_addresses(one), min(many, len(plain_addresses(one)))):
        gaps = one.gaps()
        if reach is not None:
            at = gaps.index(address)
            gaps = gaps[max(at - reach, 0):at + reach + 1]
        if address in checks_of(one) and chance.random() < 0.3:
            found.append(("out", address))
        else:
            found.append(("move", address, chance.choice(gaps)))
    return found


def all_lots(many):
    return sorted(list(lot) for size in range(many + 1) for lot in itertools.combinations(range(many), size))


def right_plainly(one, deeds):
    found = []
    for lot in all_lots(len(deeds)):
        other = or_error(lambda: done_plainly(one, [deeds[index] for index in lot]))
        if isinstance(other, Program) and are_alike(one, other, most=20000):
            found.append(lot)
    return found


class DoneTest(Case):
    def test_drawn_deeds(self):
        told = {Program: 0, tuple: 0}
        for seed in range(150):
            chance = random.Random(seed)
            one = model.Maker(seed).program() if seed % 2 else Dense(seed).dense(13)
            for many in (0, 1, 2, 3, 4, 4, 4):
                deeds = drawn_deeds(one, chance, many, chance.choice((1, 3, None)))
                kept = list(deeds)
                plain = or_error(lambda: done_plainly(one, deeds))
                for _ in range(2):
                    self.assertEqual(or_error(lambda: done(one, deeds)), plain)
                self.assertEqual(deeds, kept)
                told[type(plain)] += 1
        self.assertGreater(min(told.values()), 200)

    def test_several_to_one_gap(self):
        writes = [("write", "c", [name]) for name in "abcd"]
        one = Program(list("abcd"), writes)
        for order in itertools.permutations(range(4)):
            for gap in range(5):
                found = done(one, [("move", (index,), (gap,)) for index in order])
                self.assertEqual([row[2][0] for row in found.rows()], ["abcd"[index] for index in order])
        found = done(one, [("move", (3,), (1,)), ("move", (0,), (1,))])
        self.assertEqual([row[2][0] for row in found.rows()], ["d", "a", "b", "c"])
        found = done(one, [("move", (0,), (3,)), ("move", (3,), (1,)), ("move", (2,), (3,))])
        self.assertEqual([row[2][0] for row in found.rows()], ["d", "b", "a", "c"])
        found = done(one, [("move", (0,), (2,)), ("move", (1,), (0,)), ("move", (3,), (1,))])
        self.assertEqual([row[2][0] for row in found.rows()], ["b", "d", "a", "c"])

    def test_gaps_beside_the_rows(self):
        one = program(CHECK_X, LOG, CHECK_Y)
        for index in range(5):
            for gap in ((index,), (index + 1,)):
                self.assertEqual(done(one, [("move", (index,), gap)]), one)
        self.assertEqual(done(one, [("move", (2,), (3,)), ("move", (3,), (3,))]).rows()[2:], [CHECK_X, ("write", "log", ("a",)), CHECK_Y])
        self.assertEqual(done(one, [("move", (3,), (3,)), ("move", (2,), (3,))]).rows()[2:], [("write", "log", ("a",)), CHECK_X, CHECK_Y])
        self.assertEqual(done(one, [("out", (2,)), ("move", (4,), (2,))]).rows()[2:], [CHECK_Y, ("write", "log", ("a",))])

    def test_into_lists_and_out_of_them(self):
        log, out = [("write", channel, ("a",)) for channel in ("log", "out")]
        one = program(CHECK_X, ("if", [LOG], [OUT, CHECK_Y], []), ("loop", [], [LOG]))
        deeds = [("move", (2,), (3, 0, 1)), ("move", (3, 0, 0), (3,)), ("move", (3, 1, 0), (4, 1, 0)), ("out", (3, 1, 1))]
        for order in itertools.permutations(deeds):
            self.assertEqual(done(one, list(order)).rows()[2:], [log, ("if", (CHECK_X,), (), ()), ("loop", (), (out, log))])
        swapped = done(one, [("move", (3, 0, 0), (3, 1, 2)), ("move", (3, 1, 1), (3, 0, 0)), ("move", (4, 1, 0), (3, 1, 2))])
        self.assertEqual(swapped.rows()[3], ("if", (CHECK_Y,), (out, log, log), ()))

    def test_rows_that_need_one_another(self):
        one = Program([], [("make", "x", "f", []), ("write", "c", []), CHECK_X])
        self.assertEqual(done(one, [("move", (0,), (2,)), ("move", (2,), (2,))]).rows()[1:], [("make", "x", "f", ()), CHECK_X])
        self.fails(Unseen, done, one, [("move", (2,), (2,)), ("move", (0,), (2,))], address=(1,), name="x")
        self.fails(Unseen, done, one, [("move", (0,), (3,))], address=(1,), name="x")
        self.assertEqual(done(one, [("move", (0,), (3,)), ("out", (2,))]).rows(), [("write", "c", ()), ("make", "x", "f", ())])
        self.fails(NotLast, done, program(LOG, LEAVE), [("move", (2,), (4,))], address=(2,))

    def test_bad_deeds(self):
        one = program(CHECK_X, LOG, IF, CHECK_Y, ("if", [LEAVE], [CHECK_X], []))
        good = ("move", (2,), (3,))
        self.assertEqual(done(one, [good]), one)
        for deeds in (
            [good, good], [good, ("out", (2,))], [("move", (index,), (0,)) for index in (0, 1, 2, 3, 5)], [("out", (3,))],
            [("out", (4,))], [("out", (0,))], [("move", (4,), (0,))], [("move", (6,), (0,))], [("move", (6, 0, 0), (0,))],
            [("out", (6, 0, 0))], [("move", (2,), (9,))], [("move", (2,), (4, 2, 0))], [("move", (2,), (4, 0, 1))],
            [("move", (2,))], [("move", (2,), (3,), ())], [("out", (2,), (3,))], [("out",)], [()], [("out", [2])], [("move", (2,), [3])],
            [["out", (2,)]], ("out", (2,)), (good,), [("put", (2,), (3,))], [("Out", (2,))], [(True, (2,))], [("out", (True,))],
            [("move", (2,), (True,))], [("move", (True,), (3,))], [("move", (99,), (3,))], [good, None], None, one, [one], [(one, one, one)],
            [("move", one, (2,))], [("move", (2,), one)], {"out": (2,)}, "out", [("out", (2, 0, 0))], [("out", ())], [("move", (), (0,))],
        ):
            self.fails(BadDeeds, done, one, deeds)
        for value in any_values():
            gaps = [value for value in [value] if value in one.gaps()]
            if value != []:
                self.fails(BadDeeds, done, one, value)
            for deeds in ([value], [good, value], [("out", value)], [("move", value, (0,))], [(value, (2,))], [(value, (2,), (2,))]):
                self.fails(BadDeeds, done, one, deeds)
            if not gaps:
                self.fails(BadDeeds, done, one, [("move", (2,), value)])

    def test_altered_deeds(self):
        told = {True: 0, False: 0}
        for seed in range(80):
            chance, one = random.Random(seed), Dense(seed).dense(12)
            deeds = drawn_deeds(one, chance, 3, 4)
            for _ in range(20):
                value = altered(chance, deeds)
                truth = self.are_deeds(one, value)
                told[truth] += 1
                if truth:
                    self.assertEqual(or_error(lambda: done(one, value)), or_error(lambda: done_plainly(one, value)))
                else:
                    self.fails(BadDeeds, done, one, value)
        self.assertGreater(min(told.values()), 100)

    def are_deeds(self, one, value):
        plain, rows = plain_addresses(one), dict(model.all_rows(one.rows()))
        gaps = model.all_gaps(one.rows())
        try:
            assert type(value) is list and len(value) <= 4
            for deed in value:
                assert type(deed) is tuple and deed[0] in ("move", "out") and len(deed) == (3 if deed[0] == "move" else 2)
                assert all(type(part) is tuple and all(type(index) is int for index in part) for part in deed[1:])
                assert deed[1] in plain and (deed[2] in gaps if deed[0] == "move" else rows[deed[1]][0] == "check")
            return len({deed[1] for deed in value}) == len(value)
        except (AssertionError, IndexError):
            return False


class LotsTest(Case):
    def told(self, one, deeds):
        """Asks for all that is told of lots, each twice, and looks at it by comparing plainly; returns the right ones."""
        right = right_plainly(one, deeds)
        greatest = [lot for lot in right if not any(set(lot) < set(other) for other in right)]
        pairs = [(i, k) for i in range(len(deeds)) for k in range(i + 1, len(deeds))
                 if [i] in right and [k] in right and [i, k] not in right]
        needed = [lot for lot in right if len(lot) > 1 and not any(set(part) < set(lot) and part for part in right)]
        for call, wanted in zip(ASKING, (right, greatest, pairs, needed)):
            for _ in range(2):
                found = call(one, deeds, most=20000)
                self.assertEqual(found, wanted)
                for part in found:
                    if isinstance(part, list):
                        part.append(1)
                found.append(1)
        return right, greatest, pairs, needed

    def test_drawn_deeds(self):
        sizes, barred = {}, 0
        for seed in range(90):
            chance = random.Random(seed)
            one = Dense(seed).dense(11)
            if seed % 2:
                one, _ = Dense(seed).near_pair(11)
            deeds = drawn_deeds(one, chance, chance.choice((2, 3, 4, 4)), 2)
            right, greatest, pairs, needed = self.told(one, deeds)
            sizes[len(right)] = True
            barred += len(pairs)
        self.assertGreater(len(sizes), 6)
        self.assertGreater(barred, 0)

    def test_two_checks_of_one_name(self):
        one = program(LOG, CHECK_X, CHECK_X)
        deeds = [("out", (3,)), ("out", (4,))]
        self.assertEqual(self.told(one, deeds), ([[], [0], [1]], [[0], [1]], [(0, 1)], []))
        self.assertEqual(lot_parting(one, deeds, [0, 1]), ([], [X]))
        self.assertIs(lot_parting(one, deeds, [0]), None)

    def test_right_though_its_parts_are_not(self):
        same = Program(["a", "b"], [("write", "c", ["a"]), ("write", "c", ["b"]), ("write", "c", ["a"])])
        deeds = [("move", (0,), (2,)), ("move", (2,), (0,)), ("move", (1,), (1,))]
        self.assertEqual(self.told(same, deeds), ([[], [0, 1], [0, 1, 2], [2]], [[0, 1, 2]], [], [[0, 1]]))
        checks = program(CHECK_X, CHECK_Y, CHECK_X, CHECK_Y)
        deeds = [("out", (2,)), ("out", (3,))]
        self.assertEqual(self.told(checks, deeds), ([[], [0, 1], [1]], [[0, 1]], [], []))
        # Behind a leave nothing is done: a check may go there if an equal one takes its place.
        turned = program(CHECK_X, LOG, CHECK_X, ("if", [LEAVE], [LEAVE], []))
        deeds = [("move", (2,), (6,)), ("move", (4,), (2,))]
        self.assertEqual(self.told(turned, deeds), ([[], [0, 1], [1]], [[0, 1]], [], []))

    def test_a_lot_without_a_program(self):
        make = Program([], [("make", "x", "f", []), CHECK_X, LEAVE])
        deeds = [("move", (0,), (2,)), ("move", (1,), (2,))]
        self.assertEqual(self.told(make, deeds), ([[], [0, 1], [1]], [[0, 1]], [], []))
        deeds = [("move", (1,), (0,)), ("move", (0,), (0,))]
        self.assertEqual(self.told(make, deeds), ([[], [1]], [[1]], [], []))
        both = Program([], [("make", "x", "f", []), ("make", "y", "f", []), ("read", "r", "c"), CHECK_X])
        deeds = [("move", (3,), (2,)), ("move", (0,), (2,))]
        self.assertEqual(self.told(both, deeds), ([[], [0], [1]], [[0], [1]], [(0, 1)], []))

    def test_whether_lots_fit_is_told_by_no_others(self):
        """Point 9: right and wrong ones by turns, from lesser to greater lots."""
        writes = Program(["a", "b"], [("write", "c", ["a"]), ("write", "c", ["b"]), ("write", "c", ["a"])])
        deeds = [("move", (0,), (2,)), ("move", (2,), (0,))]
        truths = [[lot for lot in right_lots(writes, deeds) if len(lot) == size] for size in range(3)]
        self.assertEqual(truths, [[[]], [], [[0, 1]]])
        one = program(CHECK_X, CHECK_X, LOG)
        self.assertEqual(right_lots(one, [("out", (2,)), ("out", (3,))]), [[], [0], [1]])
        more = program(CHECK_X, CHECK_X, LOG, CHECK_Y, ("if", [CHECK_X], [], []))
        deeds = [("out", (2,)), ("out", (3,)), ("move", (6, 0, 0), (4,))]
        self.assertEqual(self.told(more, deeds), (
            [[], [0], [0, 1, 2], [0, 2], [1], [1, 2], [2]], [[0, 1, 2]], [(0, 1)], [],
        ))

    def test_no_deeds(self):
        self.assertEqual(self.told(program(CHECK_X), []), ([[]], [[]], [], []))

    def test_lot_parting(self):
        parted = 0
        for seed in range(60):
            chance, one = random.Random(seed), Dense(seed).dense(12)
            deeds = drawn_deeds(one, chance, 3, 3)
            right = right_lots(one, deeds, most=20000)
            for lot in all_lots(len(deeds)):
                other = or_error(lambda: done_plainly(one, [deeds[index] for index in lot]))
                for _ in range(2):
                    found = or_error(lambda: lot_parting(one, deeds, lot, most=20000))
                    self.assertIs(found is None, lot in right)
                    if not isinstance(other, Program):
                        self.assertEqual(found, other)
                    elif found is not None:
                        seen = [model.Machine(told, *found).seen() for told in (one, other)]
                        self.assertNotEqual(*seen)
                        self.assertIsNone(model.Machine(one, found[0]).wrong)
                        parted += 1
        self.assertGreater(parted, 60)

    def test_too_many_just_where_a_comparison_raises_it(self):
        told = {True: 0, False: 0}
        for seed in range(50):
            chance, one = random.Random(seed), Dense(seed).dense(11)
            deeds = drawn_deeds(one, chance, 2, 3)
            programs = [or_error(lambda: done_plainly(one, [deeds[index] for index in lot])) for lot in all_lots(len(deeds))]
            for most in (1, 3, 6, 12, 24):
                answers = [or_error(lambda: are_alike(one, part, most=most)) for part in programs if isinstance(part, Program)]
                errors = [answer for answer in answers if not isinstance(answer, bool)]
                told[bool(errors)] += 1
                for call in ASKING:
                    if errors:
                        self.assertEqual(or_error(lambda: call(one, deeds, most=most)), errors[0])
                    else:
                        self.assertEqual(call(one, deeds, most=most), call(one, deeds))
        self.assertGreater(min(told.values()), 20)

    def test_too_many_of_the_empty_lot_alone(self):
        one = many_stands()[0]
        for deeds in ([], [("move", (0, 0, 0), (0, 1, 0))]):
            for call in ASKING:
                with self.assertRaises(TooMany) as caught:
                    call(one, deeds)
                self.assertEqual(caught.exception.most, 2000)
        more = Program(["a"], full_of_things()[0].rows() + [full_of_things()[2].rows()[-1]])
        for call in ASKING:
            with self.assertRaises(TooMany) as caught:
                call(more, [("out", (8,))], most=20000)
            self.assertEqual(caught.exception.most, 300)

    def test_results_are_of_the_same_order(self):
        one = program(CHECK_X, CHECK_X, LOG, CHECK_Y, CHECK_Y)
        deeds = [("out", (6,)), ("out", (2,)), ("out", (5,)), ("out", (3,))]
        self.assertEqual(self.told(one, deeds), (
            [[], [0], [0, 1], [0, 3], [1], [1, 2], [2], [2, 3], [3]], [[0, 1], [0, 3], [1, 2], [2, 3]], [(0, 2), (1, 3)], [],
        ))
        self.assertEqual(lot_parting(one, deeds, [0, 2]), ([], [Y]))


if __name__ == "__main__":
    unittest.main()
