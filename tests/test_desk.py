"""Points 93 and 1: commands and their answers; a program that is kept as a text."""

import random
import unittest

from movedchecks.book import Book
from movedchecks.desk import Desk
from movedchecks.errors import MoveError, NoCommand, Wrong
from movedchecks.notation import show_deed, show_program, show_result
from movedchecks.playing import play
from movedchecks.programs import Program
from movedchecks.readers import read_program
from tests import model, texts
from tests.cases import CHECK_X, CHECK_Y, IF, LEAVE, LOG, X, Y, Case, many_stands, program
from tests.drawing import drawn_deed, drawn_form, drawn_program
from tests.sheets import or_error
from tests.values import any_values

UNKNOWN = [
    "", " ", "\n", "-", "back ", " back", "back\n", "Back", "back 1", "again ", "again again", "program\n", "program -", "first ", "first 1", "log ", "log\n", "log 0", "alike ",
    "alike yes", "parting ", "parting -", "sight", "sight ", "sight -", "sight 1.0", "sight 1 2", "sight 01", "sight  1", "sight a", "sight 1\n", "sight 1 ", "sight (1,)", "play", "play ",
    "play yes ", "play  yes", "play maybe", "play yes no", "play yes,", "play - -", "play - a", "play - f(a) a", "play - c#0", "play - f(a,)", "play - f(a)f(a)", "play - f(a) ", "play -  f(a)",
    "play -\n", "play yes f(A)", "play - (f(a))", "play - f(a),g(a)", "play yes - ", "out", "out x", "out 1.0", "out 1 ", "move 1", "move 1 2 3", "name x", "name x Y", "name x y z", "keep ",
    "keep\n", "put 0", "put 0\n", "put 0\ncheck", "put 0\ncheck x", "put 0\ncheck x\n\n", "put 0\nput 0\ncheck x\n", "put 0.1\ncheck x\n", "ok", "refused", "yes", "undo", "check x\n", "inputs a\n",
    "is_safe", "len", "trial", "past 0", "play " + "f(" * 50, "play - " + "f(" * 41 + ")" * 41, "out " + "1" * 41, "sight " + "9" * 5000,
]


class DeskCase(Case):
    def answer(self, desk, line):
        found = desk.execute(line)
        self.assertIs(type(found), str)
        return found

    def state(self, desk):
        return [desk.execute(line) for line in ("program", "first", "log")]

    def stays(self, desk, line, wanted):
        """A line that is refused or is no command: behind it all is as ahead of it, twice."""
        ahead = self.state(desk)
        for _ in range(2):
            if wanted is NoCommand:
                self.fails(NoCommand, desk.execute, line)
            else:
                self.assertEqual(self.answer(desk, line), wanted)
            self.assertEqual(self.state(desk), ahead)


class CommandsTest(DeskCase):
    def test_deeds(self):
        desk = Desk(program(CHECK_X, LOG))
        for line, answer, rows in (
            ("move 2 4", "ok", [LOG, CHECK_X]), ("put 3\nif\nelse\njoin -\n", "ok", [LOG, IF, CHECK_X]), ("put 3.1.0\ncheck y\n", "ok", [LOG, ("if", [], [CHECK_Y], []), CHECK_X]),
            ("out 4", "ok", [LOG, ("if", [], [CHECK_Y], [])]), ("keep", "ok", [LOG, ("if", [], [CHECK_Y], [])]), ("back", "keep", None), ("back", "out 4", None),
            ("again", "out 4", None), ("out 2", "ok", [("if", [], [CHECK_Y], [])]), ("again", "refused", None), ("out 9", "refused", None),
        ):
            self.assertEqual(self.answer(desk, line), answer)
            if rows is not None:
                self.assertEqual(read_program(desk.execute("program")), program(*rows))
        self.assertEqual(self.state(desk), ["inputs a\nmake x f a\nmake y g a\nif\nelse\ncheck y\njoin -\n", "inputs a\nmake x f a\nmake y g a\ncheck x\nwrite log a\n", "5"])
        self.assertEqual(desk.execute("back") + desk.execute("back") + desk.execute("back"), "out 2out 4put 3.1.0\ncheck y\n")
        self.assertEqual(self.answer(desk, "name x new"), "ok")
        self.assertEqual(desk.execute("program"), "inputs a\nmake new f a\nmake y g a\nwrite log a\nif\nelse\njoin -\ncheck new\n")

    def test_refused(self):
        desk = Desk(program(CHECK_X, ("loop", [], [LOG]), LEAVE))
        desk.execute("put 2\ncheck y\n"), desk.execute("keep"), desk.execute("back")
        for line in (
            "out 9", "out 0", "move 0 4", "move 9 0", "move 0 9", "move 4 4.1.0", "put 9\ncheck x\n", "put 0\ncheck x\n", "put 2\nleave\n", "put 0\nmake x f -\n", "name q r", "name x y", "name x x",
            "put 0\n" + "loop\n" * 4 + "round\nback\n" * 4, "sight 9", "sight 4.2.0", "sight 4.0.1", "play round", "play yes", "play -",
            "play out,out", "play round,out,out f(a)", "play no f(a) g(a)",
        ):
            self.stays(desk, line, "refused")
        self.assertEqual(desk.execute("again"), "keep")
        self.stays(desk, "again", "refused")
        self.stays(Desk(program()), "back", "refused")
        self.stays(Desk(program()), "again", "refused")

    def test_unknown(self):
        desk = Desk(program(CHECK_X, IF))
        desk.execute("put 0\nread r c\n"), desk.execute("keep"), desk.execute("back")
        for line in UNKNOWN + any_values() + [("keep",), b"keep", ["back"], desk, program()]:
            self.stays(desk, line, NoCommand)
        self.assertEqual(desk.execute("again"), "keep")

    def test_alike_and_parting(self):
        desk = Desk(program(CHECK_X, LOG, ("loop", [], [CHECK_Y])))
        self.assertEqual([desk.execute("alike"), desk.execute("parting")], ["yes", "alike"])
        desk.execute("move 2 4")
        self.assertEqual([desk.execute("alike"), desk.execute("parting")], ["no", "out f(a)"])
        desk.execute("back"), desk.execute("out 2")
        self.assertEqual([desk.execute("alike"), desk.execute("parting")], ["no", "out f(a)"])
        desk.execute("back"), desk.execute("out 3")
        self.assertEqual([desk.execute("alike"), desk.execute("parting")], ["no", "out -"])
        desk.execute("keep")
        self.assertEqual([desk.execute("alike"), desk.execute("parting")], ["yes", "alike"])
        desk.execute("put 0\nif\nelse\njoin -\n")
        self.assertEqual([desk.execute("alike"), desk.execute("parting")], ["unlike", "unlike"])
        self.stays(desk, "alike", "unlike")
        desk.execute("back"), desk.execute("name a b")
        self.assertEqual([desk.execute("alike"), desk.execute("parting")], ["unlike", "unlike"])
        both = Desk(program(CHECK_X, CHECK_Y))
        both.execute("move 2 4")
        self.assertEqual(both.execute("parting"), "- f(a) g(a)")
        many = Desk(many_stands()[0])
        for line in ("alike", "parting"):
            self.stays(many, line, "refused")

    def test_sight(self):
        for seed in range(20):
            one = drawn_program(seed)
            desk = Desk(one)
            for gap in model.all_gaps(one.rows()):
                names = sorted(model.in_sight(one.inputs, one.rows(), gap))
                self.assertEqual(self.answer(desk, "sight " + texts.address_text(gap)), texts.several(names))
                longer = gap[:-1] + (gap[-1] + 30,)
                self.assertEqual(self.answer(desk, "sight " + texts.address_text(longer)), "refused")
        self.assertEqual(Desk(Program([], [])).execute("sight 0"), "-")
        self.assertEqual(Desk(Program([], [])).execute("sight 0.0.0"), "refused")
        desk = Desk(program(LOG))
        desk.execute("name a zz")
        self.assertEqual(desk.execute("sight 3"), "x,y,zz")

    def test_play(self):
        told = 0
        for seed in range(40):
            one = drawn_program(seed)
            desk = Desk(one)
            for words in model.choices_up_to(one, 3):
                events = model.Machine(one, words).events
                bad = [event[2] for event in events if event[0] == "check" and event[2][0] == "made"]
                for part in ([], bad[:1], bad[:2], bad[-1:] * 2, [("made", "zz", ())]):
                    line = " ".join(["play", texts.several(words), *map(texts.result_text, part)])
                    machine = model.Machine(one, words)
                    if machine.end is None:
                        self.assertEqual(desk.execute(line), "refused")
                    else:
                        seen = model.Machine(one, words, part).seen()
                        self.assertEqual(self.answer(desk, line), texts.seen_text(*seen))
                        told += seen[1][0] == "error"
            for line in ("play yes,out,no,round", "play " + ",".join(["no"] * 30)):
                self.assertEqual(desk.execute(line), "refused")
        self.assertGreater(told, 30)

    def test_two_hundred_deeds(self):
        desk = Desk(program())
        for _ in range(100):
            self.assertEqual([desk.execute("put 2\ncheck x\n"), desk.execute("out 2")], ["ok", "ok"])
        for line in ("keep", "put 2\ncheck x\n", "out 9", "again"):
            self.stays(desk, line, "refused")
        self.assertEqual(desk.execute("log"), "200")
        self.stays(desk, "keep ", NoCommand)
        self.assertEqual([desk.execute("back"), desk.execute("log"), desk.execute("again"), desk.execute("log")], ["out 2", "199", "out 2", "200"])

    def test_wrong(self):
        for value in any_values() + [Desk(program()), Book(program()), [program()], Program, "inputs a\n"]:
            self.fails(Wrong, Desk, value, place=0)

    def test_two_desks_by_turns(self):
        one, other = Desk(program(CHECK_X, LOG)), Desk(program(LOG, CHECK_X))
        one.execute("move 2 4")
        self.assertEqual(one.execute("program"), other.execute("program"))
        self.assertEqual([one.execute("log"), other.execute("log"), one.execute("alike"), other.execute("alike")], ["1", "0", "no", "yes"])
        other.execute("out 2")
        self.assertEqual([one.execute("back"), other.execute("back")], ["move 2 4", "out 2"])
        self.assertEqual([other.execute("again"), one.execute("again"), one.execute("log")], ["out 2", "move 2 4", "1"])


class BooksTest(DeskCase):
    def test_against_a_book(self):
        """Lines by chance, against a Book that is asked itself."""
        answers = {}
        for seed in range(60):
            chance, one = random.Random(seed), drawn_program(seed)
            desk, book = Desk(one), Book(one)
            for _ in range(40):
                line, wanted = self.drawn(chance, book)
                self.assertEqual(self.answer(desk, line), wanted)
                answers[wanted if wanted in ("ok", "refused", "unlike", "alike", "yes", "no") else "text"] = True
                self.assertEqual(self.state(desk), [texts.program_text(book.program), texts.program_text(book.first), str(len(book.log()))])
        self.assertEqual(set(answers), {"ok", "refused", "unlike", "alike", "yes", "no", "text"})

    def drawn(self, chance, book):
        kind = chance.choice(("deed", "deed", "deed", "form", "back", "again", "alike", "parting"))
        if kind in ("deed", "form"):
            deed = drawn_deed(chance, book.program) if kind == "deed" else drawn_form(chance)
            done = or_error(lambda: book.do(deed))
            return texts.deed_text(deed), "ok" if done is None else "refused"
        if kind in ("back", "again"):
            deed = or_error(book.back if kind == "back" else book.again)
            return kind, texts.deed_text(deed) if isinstance(deed[0], str) else "refused"
        found = or_error(book.parting)
        if isinstance(found, tuple) and isinstance(found[0], type):
            return kind, "unlike" if found[0].__name__ == "Unlike" else "refused"
        if kind == "alike":
            return kind, "yes" if found is None else "no"
        if found is None:
            return kind, "alike"
        return kind, " ".join([texts.several(found[0]), " ".join(map(texts.result_text, found[1])) or "-"])

    def test_the_texts_of_a_book(self):
        """Point 1: what a Book has done, told by texts to a Desk of the same program, leads to the same program."""
        for seed in range(30):
            chance, one = random.Random(seed), drawn_program(seed)
            book, desk = Book(one), Desk(read_program(show_program(one)))
            for _ in range(25):
                or_error(lambda: book.do(drawn_deed(chance, book.program)))
            for deed in book.log():
                self.assertEqual(desk.execute(show_deed(deed)), "ok")
            self.assertEqual(self.state(desk), [show_program(book.program), show_program(book.first), str(len(book))])

    def test_an_error_of_a_desk_is_one_of_the_package(self):
        self.assertTrue(issubclass(NoCommand, MoveError))
        desk = Desk(program(CHECK_X, CHECK_Y))
        self.assertEqual(desk.execute("play - " + show_result(Y) + " " + show_result(X)), "error f\n")
        self.assertEqual(play(program(CHECK_X, CHECK_Y), [], [Y, X]), ({}, ("error", "f")))


if __name__ == "__main__":
    unittest.main()
