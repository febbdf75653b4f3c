"""Points 23 and 70 (with 3): reaches that are told without making programs, and what edited programs tell."""

import random
import unittest

from movedchecks.errors import Deep, NoName, NoRow, NotLast, Twice, Unseen, Wide
from movedchecks.joins import joined, pairs
from movedchecks.lots import done
from movedchecks.passes import exchanged, risen
from movedchecks.places import reach
from movedchecks.programs import Program
from movedchecks.skeletons import (
    fork_behind, forks, in_sight_at, is_comparable, is_whole, row_at_fork, skeleton, stretch, whole_choices, words_at
)
from movedchecks.trees import checked_trees, trees, written_trees
from tests import model
from tests.cases import LEAVE, Case
from tests.makers import Dense
from tests.sheets import Sheet, checks_of, or_error, plain_addresses

KINDS = (
    lambda seed: Dense(seed).dense(16),
    lambda seed: model.Maker(seed).program(least=9),
    lambda seed: Dense(seed).pair()[0],
    lambda seed: model.Maker(seed, inputs=("a",), channels=("c",)).program(least=9),
)


def drawn(seed):
    """A program of up to sixteen rows: with dense rows, with joins and leaves, with rows in both lists of ifs."""
    return KINDS[seed % len(KINDS)](seed)


def plainly_moved(program, address, gap):
    """The Program made of rows that are put together plainly, or what is raised."""
    return or_error(lambda: Sheet(program).move(address, gap).program())


def plain_reach(program, address):
    gaps = model.all_gaps(program.rows())
    return [gap for gap in gaps if isinstance(plainly_moved(program, address, gap), Program)]


def told_of_rows(program):
    names = program.names() + list(program.inputs)
    return [
        program.inputs, program.rows(), len(program), program.used_channels(), program.names(),
        [(address, program.row_at(address)) for address in program.addresses()],
        [(gap, program.in_sight(gap)) for gap in program.gaps()],
        [(name, program.row_of(name), trees(program, name)) for name in names],
        checked_trees(program), written_trees(program),
        [reach(program, address) for address in plain_addresses(program)],
    ]


def told_of_roads(program):
    whole = list(whole_choices(program, 5))
    return [
        skeleton(program), forks(program), whole, [is_whole(program, choices[:-1]) for choices in whole],
        [(in_sight_at(program, fork), row_at_fork(program, fork)) for fork in forks(program)],
        [(fork, word, fork_behind(program, fork, word), stretch(program, fork, word))
         for fork in forks(program) for word in words_at(fork)],
    ]


def told_of(program):
    return told_of_rows(program) + told_of_roads(program)


class ReachTest(Case):
    def test_all_plain_rows_of_drawn_programs(self):
        rows = barred = longest = 0
        for seed in range(60):
            one = drawn(seed)
            longest = max(longest, len(one))
            for address in plain_addresses(one):
                found = plain_reach(one, address)
                for _ in range(2):
                    told = reach(one, address)
                    self.assertEqual(told, found)
                    self.assertEqual([type(gap) for gap in told], [tuple] * len(found))
                    told.reverse(), told.append(1)
                rows += 1
                barred += len(found) < len(one.gaps())
        self.assertGreater(min(rows, barred), 400)
        self.assertEqual(longest, 16)

    def test_two_programs_by_turns(self):
        unlike = 0
        for seed in range(40):
            one = drawn(seed)
            other = one if seed % 8 == 0 else model.Maker(seed + 1).changed(one)
            asked = [
                (program, address, plain_reach(program, address))
                for address in sorted({*plain_addresses(one), *plain_addresses(other)})
                for program in (one, other) if address in plain_addresses(program)
            ]
            for program, address, found in asked + asked[::-1] + asked[::2] + asked[1::2]:
                self.assertEqual(reach(program, address), found)
            unlike += sum(first[1] == second[1] and first[2] != second[2] for first, second in zip(asked, asked[1:]))
        self.assertGreater(unlike, 100)

    def test_it_does_not_hang_on_what_was_asked(self):
        """What is moved, refused or asked in between changes nothing."""
        for seed in range(20):
            one, other = drawn(seed), drawn(seed)
            for address in plain_addresses(one):
                for gap in one.gaps():
                    or_error(lambda: one.moved(address, gap))
                    or_error(lambda: one.put(gap, LEAVE))
                told_of_roads(one)
                or_error(lambda: one.out(address))
                self.assertEqual(reach(one, address), plain_reach(other, address))
            self.assertEqual(told_of(one), told_of(other))

    def test_what_once_makes(self):
        made, check = ("make", "x", "f", []), ("check", "x")
        one = Program([], [("loop", [made], [check])])
        self.assertEqual(reach(one, (0, 0, 0)), [(0,), (0, 0, 0), (0, 0, 1), (0, 1, 0)])
        self.assertEqual(reach(one, (0, 1, 0)), [(0, 0, 1), (0, 1, 0), (0, 1, 1)])
        one = Program([], [("loop", [], [made, check]), ("loop", [], [])])
        self.assertEqual(reach(one, (0, 1, 0)), [(0,), (0, 0, 0), (0, 1, 0), (0, 1, 1)])
        one = Program([], [("loop", [made, ("if", [check], [], [])], [])])
        self.assertEqual(reach(one, (0, 0, 0)), [(0,), (0, 0, 0), (0, 0, 1), (0, 0, 1, 0, 0)])
        self.assertEqual(
            reach(one, (0, 0, 1, 0, 0)),
            [(0, 0, 1), (0, 0, 1, 0, 0), (0, 0, 1, 0, 1), (0, 0, 1, 1, 0), (0, 0, 2), (0, 1, 0)],
        )

    def test_what_a_list_in_once_makes_is_not_in_sight_in_the_body(self):
        made, check = ("make", "x", "f", []), ("check", "x")
        one = Program([], [("loop", [("loop", [], []), made], [check])])
        self.assertEqual(reach(one, (0, 0, 1)), [(0,), (0, 0, 0), (0, 0, 1), (0, 0, 2), (0, 1, 0)])
        self.fails(Unseen, one.moved, (0, 0, 1), (0, 0, 0, 0, 0), address=(0, 1, 0), name="x")

    def test_joins_use_names_at_the_ends_of_lists(self):
        made = ("make", "x", "f", [])
        one = Program(["a"], [("if", [("check", "a"), made, LEAVE], [("check", "a")], [("j", "x", "a")])])
        self.assertEqual(reach(one, (0, 0, 1)), [(0,), (0, 0, 0), (0, 0, 1), (0, 0, 2)])
        one = Program(["a"], [("if", [("check", "a")], [made, ("check", "a")], [("j", "a", "x")])])
        self.assertEqual(reach(one, (0, 1, 0)), [(0,), (0, 1, 0), (0, 1, 1), (0, 1, 2)])
        both = Program(["a"], [made, ("if", [], [("loop", [], [])], [("j", "x", "a"), ("k", "a", "x")])])
        self.assertEqual(reach(both, (0,)), [(0,), (1,)])

    def test_what_a_join_makes(self):
        one = Program(["a"], [("if", [], [], [("j", "a", "a")]), ("loop", [], []), ("check", "j"), ("check", "a")])
        self.assertEqual(reach(one, (2,)), [(1,), (1, 0, 0), (1, 1, 0), (2,), (3,), (4,)])
        self.assertEqual(reach(one, (3,)), one.gaps())

    def test_nothing_goes_behind_a_leave(self):
        one = Program(["a"], [("if", [LEAVE], [("check", "a"), LEAVE], []), ("loop", [LEAVE], []), ("check", "a"), LEAVE])
        found = [gap for gap in one.gaps() if gap not in [(0, 0, 1), (0, 1, 2), (1, 0, 1), (4,)]]
        for address in ((0, 1, 0), (2,)):
            self.assertEqual(reach(one, address), found)

    def test_what_nothing_uses_goes_everywhere(self):
        one = Program([], [("loop", [("if", [], [], [])], [("make", "x", "f", [])]), ("read", "r", "c")])
        for address in ((0, 1, 0), (1,)):
            self.assertEqual(reach(one, address), one.gaps())

    def test_other_rows_have_none(self):
        for program in (drawn(1), drawn(3).out((0,))):
            for address in program.addresses():
                if address not in plain_addresses(program):
                    self.fails(NoRow, reach, program, address, address=address)
        one = Program(["a"], [("check", "a")])
        self.fails(NoRow, reach, one.out((0,)), (0,), address=(0,))
        self.assertEqual(reach(one, (0,)), [(0,), (1,)])


class MovedTest(Case):
    def test_what_is_asked_of_moved_programs(self):
        """Behind reach the same is told of a moved program and of one made of equal rows, whatever is asked first."""
        moves = 0
        for seed in range(28):
            one = drawn(seed)
            kept = told_of(Program(one.inputs, one.rows()))
            if seed % 2:
                self.assertEqual(told_of(one), kept)
            for address in plain_addresses(one):
                for gap in reach(one, address):
                    moved, plain = one.moved(address, gap), plainly_moved(one, address, gap)
                    self.assertIs(moved == plain, True)
                    self.assertIs(is_comparable(moved, plain), True)
                    parts = [told_of_rows, told_of_roads]
                    for told in parts if moves % 2 else parts[::-1]:
                        self.assertEqual(told(moved), told(plain))
                    moves += 1
            self.assertEqual(told_of(one), kept)
        self.assertGreater(moves, 1000)

    def test_asked_twice_and_by_turns(self):
        for seed in range(12):
            one = drawn(seed)
            address = plain_addresses(one)[-1]
            told = [told_of(plainly_moved(one, address, gap)) for gap in reach(one, address)]
            moved = [one.moved(address, gap) for gap in reach(one, address)]
            for program, found in [*zip(moved, told), *zip(moved[::-1], told[::-1]), *zip(moved, told)]:
                self.assertEqual(told_of(program), found)

    def test_errors_of_drawn_programs(self):
        errors = []
        for seed in range(40):
            one = drawn(seed)
            for address in one.addresses():
                for gap in one.gaps():
                    if gap[:len(address)] != address or gap == address:
                        told = or_error(lambda: one.moved(address, gap))
                        self.assertEqual(told, plainly_moved(one, address, gap))
                        errors.append(Program if isinstance(told, Program) else told[0])
        self.assertEqual({*errors}, {Program, NotLast, Unseen, Deep})

    def test_edits_one_behind_another(self):
        """However a program came, the same is told of it as of one made of its rows."""
        edits = dict.fromkeys(["moved", "out", "put", "exchanged", "risen", "done", "joined", "renamed"], 0)
        for seed in range(60):
            chance, one = random.Random(seed), drawn(seed)
            for _ in range(12):
                edit = chance.choice(list(edits))
                told = or_error(lambda: self.edited(chance, edit, one))
                if isinstance(told, Program):
                    one = told
                    edits[edit] += 1
                    if chance.random() < 0.5:
                        self.assertEqual(told_of(one), told_of(Program(one.inputs, one.rows())))
            self.assertEqual(told_of(one), told_of(Program(one.inputs, one.rows())))
        self.assertGreater(min(edits.values()), 5)

    def edited(self, chance, edit, one):
        plain = plain_addresses(one) or [(0,)]
        address, gap = chance.choice(plain), chance.choice(one.gaps())
        if edit == "put":
            names = one.in_sight(gap)
            free = [name for name in ("new", "xab", "xac") if name not in one.names()] or ["other"]
            args = chance.sample(names, min(len(names), 2))
            return one.put(gap, chance.choice([
                ("make", free[0], "h", args), ("check", (args or ["a"])[0]), ("write", "c", args),
                ("if", [], [LEAVE], [(free[0], name, args[0]) for name in args[:1]]), ("loop", [("check", "a")], []),
            ]))
        if edit == "moved":
            return one.moved(chance.choice(one.addresses() or [(0,)]), gap)
        if edit == "out":
            return one.out(chance.choice(one.addresses() or [(0,)]))
        if edit == "done":
            deeds = [("out", check) for check in checks_of(one)[:1]]
            deeds += [("move", row, chance.choice(one.gaps())) for row in plain[:2] if ("out", row) not in deeds]
            return done(one, deeds)
        if edit == "joined":
            return joined(one, chance.choice(pairs(one) or [None]))
        if edit == "renamed":
            names = one.names() + list(one.inputs)
            return one.renamed(dict(zip(names, names[1:] + names[:1])))
        return exchanged(one, address) if edit == "exchanged" else risen(one, address)

    def test_names_that_went(self):
        """What a program had, the one behind an edit has not, and the other way round."""
        first, second = ("make", "x", "f", ["a"]), ("make", "x", "g", [])
        one = Program(["a"], [first, ("make", "y", "g", ["a"]), ("check", "y")])
        other = one.out((0,))
        for asked in (trees, Program.row_of):
            self.fails(NoName, asked, other, "x", name="x")
        self.assertEqual([other.names(), other.in_sight((2,))], [["y"], ["a", "y"]])
        again = other.put((0,), second)
        self.assertEqual(trees(again, "x"), [("made", "g", ())])
        self.assertEqual(trees(again.moved((0,), (3,)), "x"), [("made", "g", ())])
        self.assertEqual(trees(one, "x"), [("made", "f", (("in", "a"),))])
        self.assertEqual(trees(one.moved((0,), (3,)), "x"), [("made", "f", (("in", "a"),))])
        self.fails(Twice, one.moved((0,), (3,)).put, (0,), second, name="x")

    def test_what_is_put_behind_moves_is_looked_through(self):
        one = Program(["a"], [("read", "r", "c"), ("make", "x", "f", ["r", "r"]), ("check", "a")])
        for program in (one, one.moved((2,), (0,)), one.moved((2,), (1,)).moved((1,), (0,)), one.out((2,))):
            end = (len(program),)
            self.fails(Wide, program.put, end, ("make", "w", "f", ["x", "r"]), name="w")
            self.fails(Twice, program.put, end, ("make", "x", "f", []), name="x")
            self.fails(Unseen, program.put, end, ("check", "z"), address=end, name="z")
            self.assertEqual(trees(program.put(end, ("make", "w", "f", ["x"])), "w"), [
                ("made", "f", (("made", "f", (("seen", "c"), ("seen", "c"))),)),
            ])


if __name__ == "__main__":
    unittest.main()
