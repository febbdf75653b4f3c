"""Point 91: texts."""

import itertools
import random
import unittest

from movedchecks.notation import (
    show_address, show_choices, show_deed, show_program, show_result, show_row, show_seen
)
from movedchecks.playing import play
from movedchecks.programs import Program
from tests import model, texts
from tests.cases import A, CHECK_X, IF, LEAVE, LOG, X, Case, made, program
from tests.drawing import drawn_address, drawn_form, drawn_program, drawn_result, drawn_row


class NotationCase(Case):
    def shows(self, call, thing, text):
        for _ in range(2):
            found = call(thing)
            self.assertIs(type(found), str)
            self.assertEqual(found, text)


class RowTest(NotationCase):
    def test_each_kind(self):
        for row, text in (
            (("make", "x", "parse", ["a", "b", "a"]), "make x parse a,b,a\n"), (("make", "x", "f", ()), "make x f -\n"),
            (("make", "x", "f", ("a",)), "make x f a\n"), (("read", "r", "disk"), "read r disk\n"), (CHECK_X, "check x\n"),
            (("write", "log", ["a", "x"]), "write log a,x\n"), (("write", "log", []), "write log -\n"), (LEAVE, "leave\n"),
            (IF, "if\nelse\njoin -\n"), (("loop", [], ()), "loop\nround\nback\n"),
            (("if", [CHECK_X, LEAVE], (LOG,), [("j", "x", "a")]), "if\ncheck x\nleave\nelse\nwrite log a\njoin j=x/a\n"),
            (("if", (), [], (("j", "x", "a"), ("k", "a", "a"))), "if\nelse\njoin j=x/a,k=a/a\n"),
            (("loop", [CHECK_X], [LOG, CHECK_X]), "loop\ncheck x\nround\nwrite log a\ncheck x\nback\n"),
            (("loop", [IF], [("loop", [], [IF])]), "loop\nif\nelse\njoin -\nround\nloop\nround\nif\nelse\njoin -\nback\nback\n"),
            (("make", "else", "join", ["back"]), "make else join back\n"), (("check", "abcdefgh"), "check abcdefgh\n"),
        ):
            self.shows(show_row, row, text)

    def test_drawn_rows(self):
        for seed in range(200):
            row = drawn_row(random.Random(seed))
            self.shows(show_row, row, texts.text_of(texts.lines_of(row)))

    def test_lists_within_lists(self):
        row, text = CHECK_X, "check x\n"
        for deep in range(20):
            row, text = ("loop", [], [row]), f"loop\nround\n{text}back\n"
            self.shows(show_row, row, text)

    def test_nothing_is_changed(self):
        row = ("if", [("write", "c", ["a"])], [], [("j", "a", "a")])
        show_row(row)
        self.assertEqual(row, ("if", [("write", "c", ["a"])], [], [("j", "a", "a")]))
        self.assertIs(type(row[1][0][2]), list)


class ProgramTest(NotationCase):
    def test_by_name(self):
        self.shows(show_program, Program([], []), "inputs -\n")
        self.shows(show_program, Program(["b"], []), "inputs b\n")
        self.shows(show_program, Program(["b", "a", "d", "c"], [("check", "d"), LEAVE]), "inputs a,b,c,d\ncheck d\nleave\n")
        self.shows(show_program, program(LOG), "inputs a\nmake x f a\nmake y g a\nwrite log a\n")

    def test_inputs_in_any_order(self):
        for order in itertools.permutations("abc"):
            self.shows(show_program, Program(list(order), []), "inputs a,b,c\n")

    def test_drawn_programs(self):
        for seed in range(80):
            one = drawn_program(seed)
            self.shows(show_program, one, texts.program_text(one))


class PartsTest(NotationCase):
    def test_addresses(self):
        for address, text in (((0,), "0"), ((3, 1, 1), "3.1.1"), ((10, 0, 7, 1, 0), "10.0.7.1.0"), ((10 ** 39,), "1" + "0" * 39),
                              ((10 ** 40 - 1, 5, 0), "9" * 40 + ".5.0")):
            self.shows(show_address, address, text)
        for seed in range(60):
            address = drawn_address(random.Random(seed))
            self.shows(show_address, address, texts.address_text(address))

    def test_choices(self):
        for choices, text in (([], "-"), ((), "-"), (["yes"], "yes"), (("round", "out"), "round,out"), (["no"] * 3, "no,no,no"),
                              (["round"] * 200, ",".join(["round"] * 200))):
            self.shows(show_choices, choices, text)

    def test_results(self):
        deep, text = A, "a"
        for _ in range(40):
            deep, text = made("f", deep), f"f({text})"
            self.shows(show_result, deep, text)
        for result, text in (
            (A, "a"), (("seen", "disk", 0), "disk#0"), (("seen", "c", 10 ** 40 - 1), "c#" + "9" * 40), (X, "f(a)"), (made("f"), "f()"),
            (made("join", X, ("seen", "disk", 12), A), "join(f(a),disk#12,a)"), (made("f", made("g"), made("h", made("f"))), "f(g(),h(f()))"),
        ):
            self.shows(show_result, result, text)
        for seed in range(100):
            result = drawn_result(random.Random(seed))
            self.shows(show_result, result, texts.result_text(result))

    def test_seen(self):
        for seen, text in (
            (({}, ("done",)), "done\n"), (({}, ("left",)), "left\n"), (({}, ("error", "parse")), "error parse\n"),
            (({"log": [(A,)]}, ("done",)), "log [a]\ndone\n"), (({"log": [(A, X), (), (A,)]}, ("left",)), "log [a,f(a)] [-] [a]\nleft\n"),
            (({"d": [()], "c": [(("seen", "d", 1),)]}, ("error", "f")), "c [d#1]\nd [-]\nerror f\n"), (({"c": [(), ()]}, ("done",)), "c [-] [-]\ndone\n"),
        ):
            self.shows(show_seen, seen, text)

    def test_drawn_runs(self):
        several = 0
        for seed in range(60):
            one = drawn_program(seed)
            for words in model.whole_up_to(one, 4)[:5]:
                events = model.Machine(one, words).events
                bad = [event[2] for event in events if event[0] == "check" and event[2][0] == "made"][-1:]
                for part in ([], bad):
                    machine = model.Machine(one, words, part)
                    self.shows(show_seen, play(one, words, part), texts.seen_text(machine.writes, machine.end))
                    several += len(machine.writes) > 1
        self.assertGreater(several, 10)

    def test_deeds(self):
        for deed, text in (
            (("put", (0,), CHECK_X), "put 0\ncheck x\n"), (("put", (3, 1, 1), ("loop", [], [IF])), "put 3.1.1\nloop\nround\nif\nelse\njoin -\nback\n"),
            (("out", (10,)), "out 10"), (("move", (2,), (1, 0, 0)), "move 2 1.0.0"), (("name", "x", "new"), "name x new"), (("keep",), "keep"),
        ):
            self.shows(show_deed, deed, text)
        for seed in range(150):
            deed = drawn_form(random.Random(seed))
            self.shows(show_deed, deed, texts.deed_text(deed))


if __name__ == "__main__":
    unittest.main()
