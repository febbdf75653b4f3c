"""The examples of the document, one behind another as they stand there."""

import doctest
import unittest

EXAMPLES = """
>>> from movedchecks.programs import Program
>>> from movedchecks.rows import makes, uses
>>> save = [("make", "x", "parse", ["a"]), ("write", "log", ["a"]), ("check", "x")]
>>> one = Program(["a"], save + [("loop", [], [("read", "r", "disk"), ("make", "y", "join", ["x", "r"]), ("check", "y")])])
>>> [len(one), one.addresses()[3:], one.in_sight((3, 1, 1)), one.row_of("y")]
[7, [(3,), (3, 1, 0), (3, 1, 1), (3, 1, 2)], ['a', 'r', 'x'], (3, 1, 1)]
>>> two = one.moved((2,), (1,))
>>> [two.row_at((1,)), two.moved((1,), (3,)) == one, makes(one.row_at((3,))), uses(one.row_at((3, 1, 1)))]
[('check', 'x'), True, [], ['x', 'r']]
>>> from movedchecks.playing import events, play, stops_at
>>> from movedchecks.skeletons import fork_behind, forks, in_sight_at, stretch, whole_choices
>>> [forks(one), in_sight_at(one, ("again", (0,))), list(whole_choices(one, 2))]
[[('again', (0,)), ('end', ()), ('first', (0,)), ('start', ())], ['a', 'x'], [['out'], ['round', 'out']]]
>>> [fork_behind(one, ("again", (0,)), "round"), stretch(one, ("first", (0,)), "round")[0]]
[('again', (0,)), ('read', 'r', 'disk')]
>>> parsed = ("made", "parse", (("in", "a"),))
>>> [play(one, ["out"], [parsed]), play(two, ["out"], [parsed]), stops_at(one, ["out"], [parsed])]
[({'log': [(('in', 'a'),)]}, ('error', 'parse')), ({}, ('error', 'parse')), ((2,), 0)]
>>> events(two, ["round"])[3:]
[('read', 'r', ('seen', 'disk', 0)), ('make', 'y', ('made', 'join', (('made', 'parse', (('in', 'a'),)), ('seen', 'disk', 0)))), ('check', 'y', ('made', 'join', (('made', 'parse', (('in', 'a'),)), ('seen', 'disk', 0))))]
>>> from movedchecks.differences import differences, first_checks, least_bad
>>> from movedchecks.lags import lag_choices, lags
>>> [first_checks(one, ["out"]), first_checks(two, ["out"])]
[[(('made', 'parse', (('in', 'a'),)), (('log', 1),))], [(('made', 'parse', (('in', 'a'),)), ())]]
>>> [differences(one, two, ["out"]) == [("check", parsed)], least_bad(one, two, ["out"]) == [parsed], least_bad(one, one, ["round", "out"])]
[True, True, None]
>>> three = Program(["a"], [("if", [("write", "log", ["a"])], [("write", "log", ["a"])], [])])
>>> four = Program(["a"], [("write", "log", ["a"]), ("if", [], [], [])])
>>> [lags(three, four)[("if", (0,))], lag_choices(three, four), lag_choices(four, Program(["a"], [("if", [], [], [])]))]
[{'log': -1}, None, ['no']]
>>> from movedchecks.marks import faces, face_of, moment
>>> from movedchecks.stands import stand, things
>>> faces(("made", "f", (("seen", "disk"), ("seen", "disk"))))
[('made', 'f', (('mark', 'disk', 0), ('mark', 'disk', 0))), ('made', 'f', (('mark', 'disk', 0), ('mark', 'disk', 1)))]
>>> [face_of([("seen", "disk", 7)]), moment(3, 1, 2), moment(3, 4, 2), moment(3, 4, 5)]
[((('mark', 'disk', 0),), {('mark', 'disk', 0): 7}), 'later', '-1', 'gone']
>>> [[thing[0] for thing in things(one, two)], things(one, two)[3]]
[['check', 'check', 'order', 'write'], ('write', 'log', 0, ('in', 'a'))]
>>> check = ("check", parsed)
>>> [stand(one, one, check, {}, []), stand(one, two, check, {}, []), stand(one, two, things(one, two)[0], {("mark", "disk", 0): 0}, [])]
['done', 'broken', (('first', (0,)), ('0',), (('x', ('made', 'parse', (('in', 'a'),))),), (('x', ('made', 'parse', (('in', 'a'),))),), ())]
>>> from movedchecks.broken import breaking, first_broken
>>> from movedchecks.followed import stands
>>> from movedchecks.steps import beginning, behind
>>> [beginning(one, two, check), behind(one, two, check, beginning(one, two, check)[0], "")]
[[(('start', ()), (), (), (), ())], ([], True)]
>>> [breaking(one, two, check) == (["out"], [parsed]), first_broken(one, two) == check, len(stands(one, one, check)), first_broken(three, four)]
[True, True, 1, None]
>>> from movedchecks.alike import are_alike, is_parting, parting
>>> from movedchecks.tables import is_table, table
>>> [are_alike(three, four), parting(one, two) == (["out"], [parsed]), is_parting(one, two, (["round", "out"], [parsed]))]
[True, True, True]
>>> [table(three, four)[0] == lags(three, four), [len(stands) for thing, stands in table(three, four)[1]], is_table(three, four, table(three, four))]
[True, [4], True]
>>> from movedchecks.joins import spare
>>> from movedchecks.passes import can_pass
>>> from movedchecks.places import places, reach
>>> [places(one, (2,)), len(reach(one, (2,))), can_pass(save[1], save[2]), can_pass(("read", "r", "disk"), save[1])]
[[(2,), (3,)], 9, False, True]
>>> twice = Program(["a"], save + [("check", "x")])
>>> spare(twice)
[(2,), (3,)]
>>> from movedchecks.compilers import outcomes, unsound
>>> from movedchecks.lots import barring, right_lots
>>> from movedchecks.sides import Sides
>>> deeds = [("out", (2,)), ("out", (3,))]
>>> [right_lots(twice, deeds), barring(twice, deeds)]
[[[], [0], [1]], [(0, 1)]]
>>> [outcomes(one, [("pass", "write", "check")]) == [one, two], unsound(one, [("pass", "write", "check")]) == ([(("pass", "write", "check"), (1,))], ["out"], [parsed])]
[True, True]
>>> both = Sides(one, two, [parsed])
>>> [both.at_fork(), both.seen()[1], both.is_parted()]
[('first', (0,)), ({}, ('error', 'parse')), True]
>>> from movedchecks.book import Book
>>> from movedchecks.desk import Desk
>>> book, desk = Book(one), Desk(one)
>>> book.do(("move", (2,), (1,)))
>>> [book.program == two, len(book), book.back(), len(book)]
[True, 1, ('move', (2,), (1,)), 0]
>>> [desk.execute("move 2 1"), desk.execute("alike"), desk.execute("parting"), desk.execute("play out parse(a)")]
['ok', 'no', 'out parse(a)', 'error parse\\n']
"""


class ExamplesTest(unittest.TestCase):
    def test_examples(self):
        examples = doctest.DocTestParser().get_doctest(EXAMPLES, {}, "examples", None, 0)
        told = []
        result = doctest.DocTestRunner().run(examples, out=told.append)
        self.assertEqual((result.failed, "".join(told)), (0, ""))
        self.assertEqual(result.attempted, 57)


if __name__ == "__main__":
    unittest.main()
