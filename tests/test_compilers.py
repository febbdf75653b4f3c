"""Points 81, 10: rules by which rows go, and the programs that come by steps."""

import itertools
import random
import unittest

from movedchecks.alike import are_alike
from movedchecks.compilers import is_sound, outcomes, stepped, steps, unsound
from movedchecks.errors import BadStep, TooMany
from movedchecks.programs import Program
from movedchecks.rows import frozen
from tests import model
from tests.cases import CHECK_X, CHECK_Y, IF, LEAVE, LOG, OUT, X, Case, altered, full_of_things, many_stands, program
from tests.makers import Dense
from tests.sheets import Sheet, or_error, plain_addresses
from tests.values import any_values

KINDS = ("make", "read", "check", "write")
RULES = [("pass", *both) for both in itertools.product(KINDS, KINDS)]
RULES += [(rule, kind) for rule in ("rise", "both", "once", "ahead") for kind in KINDS] + [("spare",)]
# Rules by which whatever comes is alike, in every program.
SOUND = [("pass", one, other) for one, other in itertools.product(KINDS, KINDS)
         if {one, other} not in ({"check"}, {"check", "write"}, {"read", "write"}, {"write"})]
SOUND += [("rise", "make"), ("rise", "read"), ("both", "check"), ("both", "write"), ("both", "make"), ("both", "read"),
          ("once", "make"), ("once", "check"), ("ahead", "make"), ("ahead", "read"), ("spare",)]


def equal_ahead(one, address):
    """Whether an equal check stands ahead in the list of a check, or in one around it."""
    row, inner = one.row_at(address), address
    while inner:
        road = inner[:-1]
        if row in model.list_at(one.rows(), road)[:inner[-1]]:
            return True
        inner = road[:-1]
    return False


def stepped_plainly(one, rule, address):
    """The words of the point, rule by rule, put together by a sheet; None where there is no step."""
    row, sheet = one.row_at(address), Sheet(one)
    owner = one.row_at(address[:-2]) if len(address) > 1 and address[-1] == 0 else (None,)
    if rule[0] == "spare":
        if row[0] != "check" or not equal_ahead(one, address):
            return None
        sheet.take(address)
    elif row[0] != rule[1]:
        return None
    elif rule[0] == "pass":
        here = model.list_at(one.rows(), address[:-1])
        if address[-1] + 1 == len(here) or here[address[-1] + 1][0] != rule[2]:
            return None
        sheet.move(address, address[:-1] + (address[-1] + 2,))
    elif rule[0] == "rise" and owner[0] == "if":
        sheet.move(address, address[:-2])
    elif rule[0] == "both" and owner[0] == "if" and address[-2] == 0 and owner[2] and owner[2][0] == row:
        sheet.take(address[:-2] + (1, 0))
        sheet.move(address, address[:-2])
    elif rule[0] == "once" and owner[0] == "loop" and address[-2] == 1:
        sheet.move(address, address[:-2] + (0, len(owner[1])))
    elif rule[0] == "ahead" and owner[0] == "loop" and address[-2] == 0:
        sheet.move(address, address[:-2])
    else:
        return None
    found = or_error(sheet.program)
    return found if isinstance(found, Program) and found != one else None


def steps_plainly(one, rules):
    return sorted((rule, address) for rule in rules for address, _ in model.all_rows(one.rows())
                  if stepped_plainly(one, rule, address) is not None)


def levels_plainly(one, rules, most):
    """The dict from the rows to how many steps they need; None if there are more than so many programs."""
    found, now, many = {tuple(one.rows()): 0}, [one], 0
    while now:
        many, behind = many + 1, []
        for part in now:
            for step in steps_plainly(part, rules):
                other = stepped_plainly(part, *step)
                if tuple(other.rows()) not in found:
                    found[tuple(other.rows())] = many
                    behind.append(other)
        if len(found) > most:
            return None
        now = behind
    return found


def drawn(seed, rows=14):
    """A drawn program in which lists often begin with equal rows, and rows stand twice."""
    maker = Dense(seed)
    one = maker.dense(rows - 4, 3, 2, 2)
    ifs = [address for address, row in model.all_rows(one.rows()) if row[0] == "if"]
    for address in ifs[:1]:
        names = one.in_sight(address)
        row = maker.random.choice([("check", maker.random.choice(names)), ("write", "c", [])])
        one = one.put(address + (0, 0), row).put(address + (1, 0), row)
    for _ in range(2):
        rows = [row for _, row in model.all_rows(one.rows()) if row[0] in ("check", "write")]
        put = or_error(lambda: one.put(maker.random.choice(one.gaps()), maker.random.choice(rows))) if rows else None
        one = put if isinstance(put, Program) else one
    return one


def some_rules(one, chance, known=RULES):
    """A few rules, most of which lead somewhere."""
    fitting = [rule for rule in known if steps_plainly(one, [rule])]
    rules = chance.sample(fitting, min(len(fitting), chance.choice((1, 2, 3))))
    return rules + [rule for rule in chance.sample(known, 2) if rule not in rules]


class StepsTest(Case):
    def test_each_rule_and_kind(self):
        told = {}
        for seed in range(200):
            one = drawn(seed) if seed % 3 else model.Maker(seed).program(6, 20)
            found = steps_plainly(one, RULES)
            for rule, address in found:
                told[rule] = told.get(rule, 0) + 1
                other = stepped_plainly(one, rule, address)
                for _ in range(2):
                    self.assertEqual(stepped(one, (rule, address)), other)
            answer = steps(one, RULES)
            self.assertEqual(answer, found)
            answer.append(1)
            self.assertEqual(steps(one, RULES), found)
            for rule in RULES[seed % 7::7]:
                self.assertEqual(steps(one, [rule]), [step for step in found if step[0] == rule])
        self.assertEqual([rule for rule in RULES if rule not in told], [("both", "make"), ("both", "read")])

    def test_the_order_of_rules_means_nothing(self):
        for seed in range(20):
            chance, one = random.Random(seed), drawn(seed)
            rules = chance.sample(RULES, 8)
            found = steps(one, rules)
            self.assertEqual(found, sorted(found))
            chance.shuffle(rules)
            kept = list(rules)
            self.assertEqual(steps(one, rules), found)
            self.assertEqual(rules, kept)
        self.assertEqual(steps(drawn(1), []), [])

    def test_no_step_to_an_equal_program(self):
        self.assertEqual(steps(program(CHECK_X, CHECK_X), [("pass", "check", "check")]), [])
        self.assertEqual(steps(program(LOG, LOG, OUT), [("pass", "write", "write")]), [(("pass", "write", "write"), (3,))])
        self.fails(BadStep, stepped, program(LOG, LOG), (("pass", "write", "write"), (2,)), step=(("pass", "write", "write"), (2,)))

    def test_spare_checks(self):
        spare = [("spare",)]
        for rows, found in (
            ([CHECK_X, CHECK_X], [(3,)]), ([CHECK_X, LOG, CHECK_Y, CHECK_X, CHECK_Y], [(5,), (6,)]), ([CHECK_X, CHECK_Y], []),
            ([CHECK_X, ("if", [CHECK_X], [LOG, CHECK_X], [])], [(3, 0, 0), (3, 1, 1)]), ([("if", [CHECK_X], [CHECK_X], [])], []),
            ([("loop", [CHECK_X], [CHECK_X])], []), ([("loop", [CHECK_X, CHECK_X], [])], [(2, 0, 1)]),
            ([("if", [CHECK_X], [], []), CHECK_X], []), ([("loop", [], [CHECK_X]), CHECK_X], []),
            ([CHECK_X, ("loop", [], [("if", [], [CHECK_X], []), CHECK_Y])], [(3, 1, 0, 1, 0)]),
            ([("loop", [], [CHECK_X, ("if", [], [CHECK_X], []), CHECK_X]), CHECK_X], [(2, 1, 1, 1, 0), (2, 1, 2)]),
            ([("check", "a"), ("check", "a")], [(3,)]),
        ):
            one = program(*rows)
            self.assertEqual(steps(one, spare), [(("spare",), address) for address in found])
            for address in found:
                self.assertEqual(stepped(one, (("spare",), address)), one.out(address))

    def test_by_rule(self):
        one = program(("if", [CHECK_X, LOG], [CHECK_X], []), ("loop", [("make", "p", "f", [])], [OUT]))
        made = ("make", "p", "f", ())
        for step, rows in (
            ((("rise", "check"), (2, 0, 0)), [CHECK_X, ("if", [LOG], [CHECK_X], []), ("loop", [made], [OUT])]),
            ((("rise", "check"), (2, 1, 0)), [CHECK_X, ("if", [CHECK_X, LOG], [], []), ("loop", [made], [OUT])]),
            ((("both", "check"), (2, 0, 0)), [CHECK_X, ("if", [LOG], [], []), ("loop", [made], [OUT])]),
            ((("once", "write"), (3, 1, 0)), [("if", [CHECK_X, LOG], [CHECK_X], []), ("loop", [made, OUT], [])]),
            ((("ahead", "make"), (3, 0, 0)), [("if", [CHECK_X, LOG], [CHECK_X], []), made, ("loop", [], [OUT])]),
            ((("pass", "check", "write"), (2, 0, 0)), [("if", [LOG, CHECK_X], [CHECK_X], []), ("loop", [made], [OUT])]),
        ):
            self.assertEqual(stepped(one, step).rows()[2:], [frozen(row) for row in rows])
        for step in ((("both", "check"), (2, 1, 0)), (("rise", "write"), (2, 0, 1)), (("ahead", "write"), (3, 1, 0)),
                     (("once", "make"), (3, 0, 0)), (("pass", "write", "check"), (2, 0, 0)), (("spare",), (2, 0, 0)),
                     (("pass", "make", "make"), (1,)), (("rise", "check"), (2,)), (("pass", "check", "check"), (2, 1, 0))):
            self.fails(BadStep, stepped, one, step, step=step)

    def test_what_leads_to_no_program(self):
        one = program(("loop", [LEAVE], [CHECK_X]))
        self.assertEqual(steps(one, [("once", "check")]), [])
        self.fails(BadStep, stepped, one, (("once", "check"), (2, 1, 0)), step=(("once", "check"), (2, 1, 0)))
        self.assertEqual(steps(Program([], [("make", "x", "f", []), CHECK_X]), [("pass", "make", "check")]), [])

    def test_many_rows(self):
        one = Program(["a"], [("write", "c", ["a"] * (index % 3)) for index in range(24)])
        self.assertEqual(len(steps(one, [("pass", "write", "write")])), 23)
        self.assertEqual(len(stepped(one, (("pass", "write", "write"), (5,)))), 24)


class BadStepTest(Case):
    def test_altered_steps(self):
        told = {True: 0, False: 0}
        for seed in range(100):
            chance, one = random.Random(seed), drawn(seed)
            found = steps_plainly(one, RULES)
            for _ in range(10 if found else 0):
                step = altered(chance, chance.choice(found))
                truth = type(step) is tuple and any(repr(step) == repr(part) for part in found)
                told[truth] += 1
                if truth:
                    self.assertEqual(stepped(one, step), stepped_plainly(one, *step))
                else:
                    self.assertIs(self.fails(BadStep, stepped, one, step, step=step).step, step)
        self.assertGreater(told[False], 300)
        self.assertGreater(told[True], 5)

    def test_each_rule_with_each_address(self):
        for seed in range(12):
            one = drawn(seed)
            for rule in RULES:
                for address in one.addresses() + one.gaps():
                    if address not in one.addresses() or stepped_plainly(one, rule, address) is None:
                        self.fails(BadStep, stepped, one, (rule, address), step=(rule, address))

    def test_no_rules(self):
        one = program(CHECK_X, CHECK_X, LOG)
        self.assertEqual(stepped(one, (("spare",), (3,))), program(CHECK_X, LOG))
        for rule in (("spare", "check"), ("Spare",), "spare", ["spare"], (), ("pass",), ("pass", "check"), ("pass", "check", "check", "check"),
                     ("rise",), ("rise", "check", "check"), ("rise", "if"), ("rise", "leave"), ("once", "join"), ("both", None),
                     ("pass", "check", "if"), ("pass", ["check"], "write"), (True,), (("spare",),), None, one):
            for address in ((3,), (0,), one):
                self.assertIs(self.fails(BadStep, stepped, one, (rule, address), step=(rule, address)).step[0], rule)
        lists = program(("if", [IF, LOG], [IF], []), ("loop", [("loop", [], [])], [IF]), ("if", [LEAVE], [LEAVE], []), IF, CHECK_X)
        for rule in (("rise", "if"), ("both", "if"), ("ahead", "loop"), ("once", "if"), ("rise", "leave"), ("both", "leave"), ("pass", "if", "check"),
                     ("pass", "if", "if")):
            for address in lists.addresses():
                self.fails(BadStep, stepped, lists, (rule, address), step=(rule, address))
        for address in ([3], (True,), (5,), (3, 0, 0), 3, None, "", one, (-1,), ((3,),)):
            self.fails(BadStep, stepped, one, (("spare",), address), step=(("spare",), address))
        for step in ([("spare",), (3,)], (("spare",), (3,), ()), (("spare",),), ((3,), ("spare",)), one, True):
            self.fails(BadStep, stepped, one, step, step=step)
        for value in any_values():
            for step in (value, (value, (3,)), (("spare",), value), (("pass", value, "write"), (3,)), ((value,), (3,))):
                self.fails(BadStep, stepped, one, step, step=step)


class OutcomesTest(Case):
    def test_drawn_programs(self):
        several = 0
        for seed in range(60):
            chance, one = random.Random(seed), drawn(seed, 12)
            rules = some_rules(one, chance)
            levels = levels_plainly(one, rules, 30)
            if levels is None:
                self.fails(TooMany, lambda: outcomes(one, rules, texts=30), most=30)
                continue
            for _ in range(2):
                found = outcomes(one, rules, texts=30)
                keys = [tuple(part.rows()) for part in found]
                self.assertEqual(found[0], one)
                self.assertEqual(len(keys), len(set(keys)))
                self.assertEqual(set(keys), set(levels))
                needed = [levels[key] for key in keys]
                self.assertEqual(needed, sorted(needed))
                self.assertTrue(all(part.inputs == one.inputs for part in found))
                found.append(1)
            several += len(levels) > 3
            self.assertEqual(len(outcomes(one, rules, texts=len(levels))), len(levels))
            if len(levels) > 1:
                self.fails(TooMany, lambda: outcomes(one, rules, texts=len(levels) - 1), most=len(levels) - 1)
                self.fails(TooMany, lambda: outcomes(one, rules, texts=1), most=1)
        self.assertGreater(several, 15)

    def test_no_rule_and_eight(self):
        one = program(CHECK_X, LOG, IF)
        for texts in (1, 40):
            self.assertEqual(outcomes(one, [], texts=texts), [one])
        self.assertEqual(len(outcomes(one, RULES[-8:])), 1)
        self.assertEqual(outcomes(Program([], []), RULES[:8]), [Program([], [])])

    def test_all_orders_of_rows(self):
        one = Program(list("abcd"), [("write", "c", [name]) for name in "abcd"])
        rule = [("pass", "write", "write")]
        found = outcomes(one, rule)
        self.assertEqual(len(found), 24)
        self.assertEqual(found[-1].rows(), one.rows()[::-1])
        self.fails(TooMany, lambda: outcomes(one, rule, texts=23), most=23)
        five = Program(list("abcd"), one.rows() + [("write", "c", [])])
        self.fails(TooMany, outcomes, five, rule, most=40)
        self.assertEqual(len(outcomes(five, rule, texts=120)), 120)
        self.fails(TooMany, lambda: outcomes(five, rule, texts=119), most=119)

    def test_there_and_back(self):
        one = program(CHECK_X, LOG)
        both = [("pass", "check", "write"), ("pass", "write", "check")]
        self.assertEqual(outcomes(one, both), [one, program(LOG, CHECK_X)])
        self.assertEqual(outcomes(one, both[1:]), [one])


class SoundTest(Case):
    def told(self, one, rules, texts=40):
        """Asks for both answers and looks at them by comparing plainly; returns whether all are alike."""
        found = unsound(one, rules, texts=texts, most=20000)
        levels = {key: many for key, many in levels_plainly(one, rules, texts).items()}
        parted = [many for key, many in levels.items() if not are_alike(one, Program(one.inputs, key), most=20000)]
        self.assertIs(is_sound(one, rules, texts=texts, most=20000), not parted)
        self.assertIs(is_sound(one, rules, texts=texts, most=20000), found is None)
        self.assertIs(found is None, not parted)
        if found is not None:
            road, choices, bad = found
            self.assertEqual([type(found), type(road), type(choices), type(bad)], [tuple, list, list, list])
            self.assertEqual(len(road), min(parted))
            other = one
            for step in road:
                self.assertIn(step, steps_plainly(other, rules))
                other = stepped_plainly(other, *step)
            seen = [model.Machine(part, choices, bad).seen() for part in (one, other)]
            self.assertNotEqual(*seen)
            self.assertIsNone(model.Machine(one, choices).wrong)
            self.assertLessEqual(len(bad), 2)
            kept = (list(road), list(choices), list(bad))
            road.append(1), choices.append(1), bad.append(1)
            self.assertEqual(unsound(one, rules, texts=texts, most=20000), kept)
        return not parted

    def test_drawn_programs(self):
        told, far = {True: 0, False: 0}, 0
        for seed in range(80):
            chance, one = random.Random(seed), drawn(seed, 12)
            rules = some_rules(one, chance)
            if levels_plainly(one, rules, 25) is None:
                continue
            truth = self.told(one, rules, 25)
            told[truth] += 1
            far += not truth and len(unsound(one, rules, texts=25, most=20000)[0]) > 1
        self.assertGreater(min(told.values()), 15)
        self.assertGreater(far, 0)

    def test_rules_that_are_sound_in_every_program(self):
        told = {}
        for seed in range(90):
            one = drawn(seed, 12)
            for rule in SOUND:
                if steps(one, [rule]) and levels_plainly(one, [rule], 12) is not None:
                    self.assertIs(is_sound(one, [rule], texts=12, most=20000), True)
                    told[rule] = True
            rules = some_rules(one, random.Random(seed), SOUND)
            if levels_plainly(one, rules, 20) is not None:
                self.assertIs(is_sound(one, rules, texts=20, most=20000), True)
        self.assertEqual([rule for rule in SOUND if rule not in told], [("both", "make"), ("both", "read")])

    def test_rules_that_are_not(self):
        read, see = ("read", "r", "c"), ("write", "c", ["r"])
        write, more = ("write", "c", ["a"]), ("write", "c", ["x"])
        examples = {
            ("pass", "check", "check"): [CHECK_X, CHECK_Y], ("pass", "check", "write"): [CHECK_X, LOG],
            ("pass", "write", "check"): [LOG, CHECK_X], ("pass", "write", "write"): [write, more],
            ("pass", "read", "write"): [read, write, see], ("pass", "write", "read"): [write, read, see],
            ("rise", "check"): [("if", [CHECK_X], [], [])], ("rise", "write"): [("if", [write], [], [])],
            ("once", "read"): [("loop", [], [read, see])], ("once", "write"): [("loop", [], [write])],
            ("ahead", "check"): [("loop", [CHECK_X], [])], ("ahead", "write"): [("loop", [write], [])],
        }
        self.assertEqual(sorted({*examples, *SOUND}), sorted(RULES))
        for rule, rows in examples.items():
            self.assertIs(self.told(program(*rows), [rule]), False)
            self.assertEqual(len(unsound(program(*rows), [rule])[0]), 1)

    def test_as_few_steps_as_possible(self):
        # The first steps go past what says nothing; only the third one is seen.
        one = program(CHECK_X, ("read", "r", "c"), ("read", "s", "c"), LOG)
        rules = [("pass", "check", "read"), ("pass", "check", "write")]
        found = unsound(one, rules)
        self.assertEqual([step[1] for step in found[0]], [(2,), (3,), (4,)])
        self.assertEqual(found[1:], ([], [X]))
        self.assertIs(is_sound(one, rules[:1]), True)
        self.assertIs(unsound(one, rules[:1]), None)
        self.assertIs(is_sound(one, []), True)

    def test_too_many(self):
        writes = Program(list("abcd"), [("write", "c", [name]) for name in "abcd"])
        rule = [("pass", "write", "write")]
        for call in (is_sound, unsound):
            self.fails(TooMany, lambda: call(writes, rule, texts=23, most=1), most=23)
            self.fails(TooMany, lambda: call(many_stands()[0], [("once", "read"), ("pass", "read", "make")], texts=1, most=1), most=1)
            with self.assertRaises(TooMany) as caught:
                call(many_stands()[0], [("ahead", "read")])
            self.assertEqual(caught.exception.most, 2000)
            more = Program(["a"], full_of_things()[0].rows() + [full_of_things()[2].rows()[-1]])
            self.fails(TooMany, lambda: call(more, [("pass", "make", "read")], most=20000), most=300)
            self.fails(TooMany, lambda: call(more, [("pass", "make", "make")], texts=1, most=20000), most=1)
        self.assertIs(is_sound(many_stands()[0], [("spare",)], most=20000), True)

    def test_example(self):
        save = [("make", "x", "parse", ["a"]), ("write", "log", ["a"]), ("check", "x")]
        one = Program(["a"], save)
        parsed = ("made", "parse", (("in", "a"),))
        rule = ("pass", "write", "check")
        self.assertEqual(outcomes(one, [rule]), [one, one.moved((2,), (1,))])
        self.assertEqual(unsound(one, [rule]), ([(rule, (1,))], [], [parsed]))
        self.assertEqual(plain_addresses(one), [(0,), (1,), (2,)])


if __name__ == "__main__":
    unittest.main()
