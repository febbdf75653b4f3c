"""Point 70: where a single row may stand."""

import unittest

from movedchecks.alike import are_alike, parting
from movedchecks.errors import NoGap, NoRow, NotLast, TooMany, Unseen
from movedchecks.places import earliest, place_parting, places, reach
from movedchecks.programs import Program
from tests import model
from tests.cases import CHECK_X, CHECK_Y, IF, LEAVE, LOG, OUT, X, Y, Case, full_of_things, many_stands, program
from tests.makers import Dense
from tests.sheets import Sheet, no_plain_addresses, or_error, plain_addresses
from tests.values import any_values

LISTS = (reach, places, earliest)


def drawn(seed, rows=11):
    return Dense(seed).dense(rows, 3, 2, 2)


class PlacesCase(Case):
    def twice(self, call, *args, **options):
        """What a call returns; it is called once more behind a change of the first answer."""
        found = call(*args, **options)
        kept = list(found)
        if isinstance(found, list):
            found.append(1)
        again = call(*args, **options)
        self.assertEqual(list(again), kept)
        return again

    def parts(self, one, other, found):
        choices, bad = found
        self.assertEqual([type(found), type(choices), type(bad)], [tuple, list, list])
        seen = [model.Machine(told, choices, bad) for told in (one, other)]
        self.assertIsNone(seen[0].wrong)
        self.assertIsNotNone(seen[0].end)
        self.assertNotEqual(*[told.seen() for told in seen])
        self.assertLessEqual(len(bad), 2)
        self.assertEqual(bad, sorted(bad))


class ReachTest(PlacesCase):
    def test_all_gaps_of_drawn_programs(self):
        rows = 0
        for seed in range(20):
            one = drawn(seed) if seed % 2 else model.Maker(seed).program()
            for address in plain_addresses(one):
                found, rows = [], rows + 1
                for gap in model.all_gaps(one.rows()):
                    moved = or_error(lambda: Sheet(one).move(address, gap).program())
                    self.assertEqual(or_error(lambda: one.moved(address, gap)), moved)
                    found += [gap] if isinstance(moved, Program) else []
                self.assertEqual(self.twice(reach, one, address), found)
                self.assertLessEqual({address, address[:-1] + (address[-1] + 1,)}, set(found))
        self.assertGreater(rows, 150)

    def test_names_and_leaves_bar_the_way(self):
        one = Program(["a"], [("make", "x", "f", ["a"]), ("if", [("check", "x"), LEAVE], [], []), ("check", "x")])
        self.assertEqual(reach(one, (0,)), [(0,), (1,)])
        self.assertEqual(reach(one, (2,)), [(1,), (1, 0, 0), (1, 0, 1), (1, 1, 0), (2,), (3,)])
        self.assertEqual(reach(one, (1, 0, 0)), [(1,), (1, 0, 0), (1, 0, 1), (1, 1, 0), (2,), (3,)])
        read = Program([], [("loop", [], []), ("read", "r", "c"), ("loop", [], [("write", "c", ["r"])])])
        self.assertEqual(reach(read, (1,)), [(0,), (1,), (2,), (2, 0, 0), (2, 1, 0)])

    def test_a_make_leaves_the_lists_of_an_if(self):
        made = ("make", "x", "f", [])
        one = Program(["a"], [("if", [made], [], [("j", "x", "a")])])
        self.assertEqual(reach(one, (0, 0, 0)), [(0,), (0, 0, 0), (0, 0, 1)])
        other = Program(["a"], [("if", [], [("make", "x", "f", [])], []), ("check", "a")])
        self.assertEqual(reach(other, (0, 1, 0)), other.gaps())


class PlacesTest(PlacesCase):
    def test_drawn_programs(self):
        some = between = 0
        for seed in range(20):
            one = drawn(seed)
            for address in plain_addresses(one):
                gaps = reach(one, address)
                alike = [gap for gap in gaps if are_alike(one, Sheet(one).move(address, gap).program())]
                self.assertEqual(self.twice(places, one, address), alike)
                self.assertEqual(self.twice(earliest, one, address), alike[0])
                self.assertLessEqual({address, address[:-1] + (address[-1] + 1,)}, set(alike))
                some += 2 < len(alike) < len(gaps)
                inside = gaps[gaps.index(alike[0]):gaps.index(alike[-1])]
                between += any(gap not in alike for gap in inside)
        self.assertGreater(some, 20)
        self.assertGreater(between, 0)

    def test_partings_of_drawn_programs(self):
        parted = 0
        for seed in range(12):
            one = drawn(seed)
            for address in plain_addresses(one):
                alike = places(one, address)
                for gap in reach(one, address):
                    found = place_parting(one, address, gap)
                    self.assertIs(found is None, gap in alike)
                    if found is not None:
                        parted += 1
                        self.parts(one, Sheet(one).move(address, gap).program(), found)
                        found[0].append(1), found[1].append(1)
                        self.assertEqual(place_parting(one, address, gap), parting(one, one.moved(address, gap)))
        self.assertGreater(parted, 100)

    def test_other_places_between(self):
        one = program(CHECK_X, LOG, CHECK_X)
        self.assertEqual(places(one, (2,)), [(1,), (2,), (3,)])
        self.assertEqual(places(one, (4,)), [(1,), (2,), (3,), (4,), (5,)])
        self.assertEqual(places(one, (3,)), [(3,), (4,), (5,)])
        # Ahead of y and behind it, but not within the loop, whose rounds write.
        rounds = program(LOG, ("loop", [], [("write", "log", ["y"])]))
        self.assertEqual(places(rounds, (2,)), [(0,), (1,), (2,), (3,)])
        # Two rows of one kind may stand for one another, but not what lies between.
        same = program(LOG, ("write", "log", ["x"]), LOG)
        self.assertEqual(places(same, (2,)), [(0,), (1,), (2,), (3,)])
        back = program(("write", "log", ["x"]), LOG, ("write", "log", ["x"]), LOG)
        self.assertEqual(places(back, (2,)), [(1,), (2,), (3,)])
        spread = program(("if", [CHECK_X], [CHECK_X], []), CHECK_X, LOG)
        self.assertEqual(places(spread, (3,)), [(1,), (2,), (2, 0, 0), (2, 0, 1), (2, 1, 0), (2, 1, 1), (3,), (4,), (5,)])
        hole = program(("if", [CHECK_X, LEAVE], [], []), CHECK_X)
        self.assertEqual(places(hole, (3,)), [(1,), (2,), (2, 1, 0), (3,), (4,)])
        parted = program(CHECK_X, ("if", [CHECK_Y], [], []), CHECK_X)
        self.assertEqual(places(parted, (4,)), [(1,), (2,), (3,), (3, 0, 0), (3, 0, 1), (3, 1, 0), (4,), (5,)])

    def test_a_row_past_others(self):
        one = program(LOG, OUT, LOG)
        self.assertEqual(places(one, (3,)), [(0,), (1,), (2,), (3,), (4,), (5,)])
        self.assertEqual(places(one, (2,)), [(0,), (1,), (2,), (3,), (4,), (5,)])
        self.assertEqual(earliest(one, (4,)), (0,))
        loops = program(("loop", [], [CHECK_X]), IF)
        self.assertEqual(places(loops, (2, 1, 0)), [(2, 0, 0), (2, 1, 0), (2, 1, 1)])
        self.assertEqual(place_parting(loops, (2, 1, 0), (2,))[1], [X])
        self.assertIs(place_parting(loops, (2, 1, 0), (2, 0, 0)), None)

    def test_order_of_two_checks(self):
        one = program(CHECK_X, CHECK_Y)
        self.assertEqual(place_parting(one, (2,), (4,)), ([], [X, Y]))
        self.assertEqual(places(one, (2,)), [(1,), (2,), (3,)])
        self.assertEqual(places(one, (3,)), [(3,), (4,)])
        self.assertEqual(places(program(("check", "a"), LOG, CHECK_X), (2,)), [(0,), (1,), (2,), (3,), (4,), (5,)])

    def test_example(self):
        save = [("make", "x", "parse", ["a"]), ("write", "log", ["a"]), ("check", "x")]
        rounds = [("read", "r", "disk"), ("make", "y", "join", ["x", "r"]), ("check", "y")]
        one = Program(["a"], save + [("loop", [], rounds)])
        self.assertEqual([places(one, (2,)), len(reach(one, (2,)))], [[(2,), (3,)], 9])
        self.assertEqual(earliest(one, (2,)), (2,))

    def test_inputs_and_empty_programs(self):
        one = Program([], [("write", "c", [])])
        self.assertEqual([places(one, (0,)), earliest(one, (0,))], [[(0,), (1,)], (0,)])


class ErrorsTest(PlacesCase):
    def test_no_plain_row(self):
        one = program(IF, ("loop", [("check", "x")], [LEAVE]), ("if", [LEAVE], [LOG], []), LEAVE)
        plain = plain_addresses(one)
        values = no_plain_addresses(one) + [value for value in any_values() if value not in plain]
        values += [(True,), (False,), (2, 0), (3, True, 0), (3, 0, False), (-1,)]
        for value in values:
            for call in LISTS:
                error = self.fails(NoRow, call, one, value, address=value)
                self.assertIs(error.address, value)
            for gap in ((0,), (99,), value, None, (0,)):
                self.assertIs(self.fails(NoRow, place_parting, one, value, gap, address=value).address, value)

    def test_no_gap(self):
        one = program(LOG, IF, CHECK_X)
        values = [(6,), (3, 2, 0), (3, 0, 1), (2, 0, 0), [0], [], (True,), (False,), one]
        for value in values + [value for value in any_values() if value not in one.gaps()]:
            error = self.fails(NoGap, place_parting, one, (2,), value, gap=value)
            self.assertIs(error.gap, value)

    def test_what_moved_raises(self):
        one = program(("if", [CHECK_X, LEAVE], [], []), ("loop", [], [LOG]))
        self.fails(NotLast, place_parting, one, (3, 1, 0), (2, 0, 2), address=(2, 0, 1))
        self.fails(Unseen, place_parting, one, (0,), (3,), address=(1, 0, 0), name="x")
        self.fails(NoGap, place_parting, one, (0,), (3, 1, 2), gap=(3, 1, 2))

    def test_too_many(self):
        one, thing = many_stands()
        address = (0, 0, 0)
        for call in (places, earliest):
            self.fails(TooMany, call, one, address, most=2000)
            self.assertEqual(type(call(one, address, most=20000)), list if call is places else tuple)
        self.fails(TooMany, place_parting, one, address, (0,), most=2000)
        self.fails(TooMany, place_parting, one, address, (0, 0, 1), most=2000)

    def test_too_many_where_comparing_raises_it(self):
        cases = 0
        for seed in range(5):
            one = drawn(seed)
            for address in plain_addresses(one):
                for most in (1, 4, 16):
                    told = [or_error(lambda: are_alike(one, one.moved(address, gap), most=most)) for gap in reach(one, address)]
                    if (TooMany, {"most": most}) not in told:
                        self.assertEqual(len(places(one, address, most=most)), told.count(True))
                        cases += 1
                    elif set(map(repr, told)) == {repr((TooMany, {"most": most}))}:
                        for call in (places, earliest):
                            with self.assertRaises(TooMany) as caught:
                                call(one, address, most=most)
                            self.assertEqual(caught.exception.most, most)
                        cases += 1
        self.assertGreater(cases, 30)

    def test_too_many_things(self):
        more = full_of_things()[2]
        rows = full_of_things()[0].rows() + [more.rows()[-1]]
        one = Program(["a"], rows)
        for call in (places, earliest):
            with self.assertRaises(TooMany) as caught:
                call(one, (12,), most=20000)
            self.assertEqual(caught.exception.most, 300)
        self.assertEqual(reach(one, (12,)), [(index,) for index in range(5, 15)])


if __name__ == "__main__":
    unittest.main()
