"""Point 92: what a text was shown from."""

import random
import unittest

from movedchecks.book import Book
from movedchecks.errors import NoDeed, NoText, Refused
from movedchecks.notation import show_address, show_choices, show_deed, show_program, show_result, show_row
from movedchecks.playing import play
from movedchecks.programs import Program
from movedchecks.readers import read_address, read_choices, read_deed, read_program, read_result, read_row
from movedchecks.results import is_result
from movedchecks.rows import frozen, is_row
from tests import model
from tests.cases import A, CHECK_X, LEAVE, LOG, Case, made, program
from tests.drawing import drawn_address, drawn_form, drawn_program, drawn_result, drawn_row
from tests.sheets import or_error
from tests.values import any_values

PAIRS = {
    "row": (show_row, read_row), "program": (show_program, read_program), "address": (show_address, read_address),
    "choices": (show_choices, read_choices), "result": (show_result, read_result), "deed": (show_deed, read_deed),
}
SIGNS = "\n ,.-()#=/0123456789abxyzAZ_+[]'\t"
WORDS = ("yes", "no", "round", "out")


def kept(deed):
    return (*deed[:2], frozen(deed[2])) if deed[0] == "put" else deed


def drawn_things(seed):
    """For each kind a thing and what is read of its text."""
    chance = random.Random(seed)
    row, deed, one = drawn_row(chance), drawn_form(chance), drawn_program(seed)
    choices = [chance.choice(WORDS) for _ in range(chance.randint(0, 5))]
    address, result = drawn_address(chance), drawn_result(chance)
    return {"row": (row, frozen(row)), "program": (one, one), "address": (address, address), "choices": (tuple(choices), choices),
            "result": (result, result), "deed": (deed, kept(deed))}


def spoiled(chance, text):
    """A text with one sign, word or line put otherwise, left out, put in or twice."""
    sign = chance.choice(("", "", " ", "\n", ",", "."))
    parts = text.split(sign) if sign else list(text)
    index = chance.randrange(len(parts) + 1)
    deed = chance.choice(("out", "in", "in", "other", "other", "twice", "turned"))
    if deed == "in" or not parts:
        parts.insert(index, chance.choice(list(SIGNS) + ["x", "-", "else", "back", "join -", "check x", "if", "0", "00"]))
    else:
        index = min(index, len(parts) - 1)
        if deed == "out":
            parts.pop(index)
        elif deed == "other":
            parts[index] = chance.choice(list(SIGNS) + ["leave", "round", "", "ab"])
        elif deed == "twice":
            parts.insert(index, parts[index])
        else:
            other = chance.randrange(len(parts))
            parts[index], parts[other] = parts[other], parts[index]
    return sign.join(parts)


class ReadersCase(Case):
    def no(self, read, *many):
        for text in many:
            self.fails(NoText, read, text)

    def reads(self, kind, text, thing):
        show, read = PAIRS[kind]
        for _ in range(2):
            found = read(text)
            self.assertEqual(found, thing)
            self.assertIs(type(found), type(thing))
            self.assertEqual(show(found), text)


class ThereAndBackTest(ReadersCase):
    def test_drawn_things(self):
        for seed in range(150):
            for kind, (thing, wanted) in drawn_things(seed).items():
                self.reads(kind, PAIRS[kind][0](thing), wanted)

    def test_spoiled_texts(self):
        told = {kind: [0, 0] for kind in PAIRS}
        for seed in range(250):
            chance, things = random.Random(seed), drawn_things(seed)
            for kind, (show, read) in PAIRS.items():
                for _ in range(8):
                    text = spoiled(chance, show(things[kind][0]))
                    found = or_error(lambda: read(text))
                    if found == (NoText, {}):
                        told[kind][0] += 1
                    else:
                        told[kind][1] += 1
                        self.assertEqual(show(found), text)
                        self.told(kind, found)
        self.assertGreater(min(min(pair) for pair in told.values()), 40)

    def told(self, kind, thing):
        """Whether a thing that is read is one by its form."""
        if kind == "row":
            self.assertTrue(is_row(thing) and frozen(thing) == thing)
        elif kind == "result":
            self.assertTrue(is_result(thing))
        elif kind == "choices":
            self.assertTrue(type(thing) is list and all(word in WORDS for word in thing))
        elif kind == "address":
            self.assertTrue(type(thing) is tuple and len(thing) % 2 and all(type(part) is int and part >= 0 for part in thing))
        elif kind == "deed":
            self.assertNotEqual(or_error(lambda: Book(program()).do(thing)), (NoDeed, {}))
        else:
            self.assertEqual(type(thing), Program)

    def test_a_program_runs_as_the_first_one_did(self):
        for seed in range(30):
            one = drawn_program(seed)
            other = read_program(show_program(one))
            for words in model.whole_up_to(one, 4)[:6]:
                checked = [event[2] for event in model.Machine(one, words).events if event[0] == "check" and event[2][0] == "made"]
                for bad in ([], checked[:1], checked[-1:]):
                    self.assertEqual(play(other, words, bad), play(one, words, bad))

    def test_new_lists(self):
        found = read_choices("yes,no")
        found.append("out")
        self.assertEqual(read_choices("yes,no"), ["yes", "no"])
        self.assertEqual(type(read_row("if\nelse\njoin -\n")[3]), tuple)


class RowTest(ReadersCase):
    def test_each_kind(self):
        for text, row in (
            ("make x f -\n", ("make", "x", "f", ())), ("make x f a,b,a\n", ("make", "x", "f", ("a", "b", "a"))), ("read r c\n", ("read", "r", "c")),
            ("check else\n", ("check", "else")), ("write log a\n", ("write", "log", ("a",))), ("leave\n", LEAVE),
            ("loop\nleave\ncheck x\nround\nback\n", ("loop", (LEAVE, CHECK_X), ())), ("if\nelse\nleave\njoin a=a/a,a=b/c\n", ("if", (), (LEAVE,), (("a", "a", "a"), ("a", "b", "c")))),
        ):
            self.reads("row", text, row)

    def test_blanks_and_line_feeds(self):
        for text in ("check x\n", "write log a,b\n", "if\ncheck x\nelse\njoin j=x/a\n", "loop\nround\nleave\nback\n", "make x f -\n"):
            self.assertTrue(is_row(read_row(text)))
            self.no(read_row, text[:-1], text + "\n", "\n" + text, " " + text, text + " ", text.replace("\n", "\n\n", 1), text.replace("\n", " \n", 1),
                    text.replace("\n", "\r\n"), text + text, text.upper(), text[1:], text.replace("\n", "", 1))
            if " " in text:
                self.no(read_row, text.replace(" ", "  ", 1), text.replace(" ", "\t", 1), text.replace(" ", "", 1), text.replace(" ", "\n", 1))

    def test_wrong_rows(self):
        self.no(
            read_row, "", "\n", " ", "-", "check\n", "check \n", "check -\n", "check x y\n", "check X\n", "check abcdefghi\n", "check x,y\n", "check 1\n",
            "make x f\n", "make x f a,b,c,d\n", "make x f a,\n", "make x f ,a\n", "make x f a,,b\n", "make x f -,a\n", "make x f --\n", "make x - a\n", "make - f a\n",
            "make x f a b\n", "read r\n", "read r c -\n", "read r c c\n", "write c\n", "write c a,b,a,b\n", "write - a\n", "leave -\n", "leave leave\n", "leave \n",
            "if\n", "if\nelse\n", "if\nelse\njoin\n", "if\nelse\njoin \n", "if\nelse\njoin -", "if\njoin -\n", "if\nelse\nelse\njoin -\n", "if -\nelse\njoin -\n",
            "if\nelse -\njoin -\n", "if\nelse\njoin j=a\n", "if\nelse\njoin j=a/b/c\n", "if\nelse\njoin j/a=b\n", "if\nelse\njoin =a/b\n", "if\nelse\njoin j=/b\n",
            "if\nelse\njoin j=a/\n", "if\nelse\njoin j=a/b,\n", "if\nelse\njoin j=a/b,-\n", "if\nelse\njoin -,j=a/b\n", "if\nelse\njoin j=-/b\n", "if\nelse\njoin j=a/b k=a/b\n",
            "if\nelse\njoin J=a/b\n", "if\nelse\njoin j==a/b\n", "if\nelse\njoin -\njoin -\n", "if\nelse\nback\n", "else\n", "join -\n", "round\n", "back\n", "loop\n", "loop\nround\n",
            "loop\nback\n", "loop\nround\nback -\n", "loop\nround\nround\nback\n", "loop\nround -\nback\n", "loop\nround\njoin -\n", "loop\nelse\nback\n", "loop -\nround\nback\n",
            "loop\nround\nback\nback\n", "loop\nround\nback\ncheck x\n", "if a b -\n", "if - - -\n", "loop - -\n", "put 0\ncheck x\n", "inputs -\ncheck x\n", "join j=a/b\n",
            "loop\nif\nround\nelse\njoin -\nback\n", "loop\ncheck\nround\nback\n",
        )

    def test_lists_deep_within_one_another(self):
        for around in ((("loop\n"), "round\nback\n"), ("if\n", "else\njoin -\n"), ("loop\nround\n", "back\n"), ("if\nelse\n", "join -\n")):
            for inner in ("", "leave\n"):
                for deep in (1, 4, 19, 20):
                    text = around[0] * deep + inner + around[1] * deep
                    self.assertEqual(show_row(read_row(text)), text)
                    self.assertEqual(read_deed("put 0\n" + text)[2], read_row(text))
                for deep in (21, 22, 40, 300, 5000):
                    text = around[0] * deep + inner + around[1] * deep
                    self.no(read_row, text, around[0] * deep)
                    self.no(read_deed, "put 0\n" + text)

    def test_many_rows(self):
        text = "loop\n" + "check x\n" * 3000 + "round\nback\n"
        self.assertEqual(len(read_row(text)[1]), 3000)
        self.no(read_program, "inputs x\n" + text)


class ProgramTest(ReadersCase):
    def test_inputs(self):
        self.reads("program", "inputs -\n", Program([], []))
        self.reads("program", "inputs a,b\ncheck a\n", Program(["a", "b"], [("check", "a")]))
        self.no(read_program, "", "inputs\n", "inputs \n", "inputs -", "inputs b,a\n", "inputs a,a\n", "inputs a,b,c,d,e\n", "inputs A\n", "inputs a b\n", "inputs a,\n", "inputs -,a\n",
                "inputs --\n", "input a\n", "inputs a\n\n", "\ninputs a\n", " inputs a\n", "inputs  a\n", "check a\n", "inputs abcdefghi\n", "inputs a\ninputs a\n", "inputs a\n ")

    def test_what_is_no_program(self):
        for rows in (
            "check b\n", "leave\nleave\n", "leave\ncheck a\n", "make a f -\n", "make x f -\nread x c\n", "check x\nmake x f -\n", "check a\n" * 25,
            "loop\n" * 4 + "round\nback\n" * 4, "read r c\nmake x f r,r,r\n", "if\nmake x f -\nelse\njoin j=x/x\n", "else\n", "back\n", "if\nelse\n", "round\n", "check a \n", "check a\n\n",
        ):
            self.no(read_program, "inputs a\n" + rows)
        self.assertEqual(len(read_program("inputs a\n" + "check a\n" * 24)), 24)
        self.assertEqual(len(read_program("inputs -\n" + "loop\n" * 3 + "round\nback\n" * 3)), 3)

    def test_spoiled_programs(self):
        read = 0
        for seed in range(60):
            chance, text = random.Random(seed), show_program(drawn_program(seed))
            for _ in range(15):
                other = spoiled(chance, text)
                found = or_error(lambda: read_program(other))
                if found != (NoText, {}):
                    self.assertEqual(show_program(found), other)
                    read += 1
        self.assertGreater(read, 50)


class NumbersTest(ReadersCase):
    def test_digits(self):
        for digits, truth in (
            ("0", True), ("7", True), ("10", True), ("9" * 40, True), ("1" + "0" * 39, True), ("9" * 41, False), ("1" + "0" * 40, False), ("9" * 5000, False), ("0" * 41, False),
            ("00", False), ("01", False), ("-0", False), ("-1", False), ("+1", False), ("", False), (" 1", False), ("1 ", False), ("1_0", False), ("0x1", False), ("1.", False),
            ("a", False), ("#", False), ("1\n", False), ("0" * 4999 + "1", False), ("-", False), ("1e3", False),
        ):
            for read, text in ((read_address, digits), (read_address, f"{digits}.0.1"), (read_address, f"1.{digits}.1"), (read_result, f"c#{digits}"), (read_result, f"f(a,c#{digits})"),
                               (read_deed, f"out {digits}"), (read_deed, f"move 0 {digits}"), (read_deed, f"put {digits}\ncheck x\n")):
                if truth:
                    self.assertIsNotNone(read(text))
                else:
                    self.no(read, text)

    def test_addresses(self):
        self.reads("address", "3.1.1", (3, 1, 1))
        self.reads("address", "0", (0,))
        self.reads("address", "0.7.9" + ".0" * 4000, (0, 7, 9) + (0,) * 4000)
        self.no(read_address, "", ".", "1.", ".1", "1.0", "1..0", "1.0.0.0", "1,0,0", "1.0.", "-", "1 0 0", "a", "1.0.0 ", "1.0.0\n", "()", "1.+0.0")


class ChoicesTest(ReadersCase):
    def test_choices(self):
        self.reads("choices", "-", [])
        self.reads("choices", "yes,no,round,out", ["yes", "no", "round", "out"])
        self.reads("choices", ",".join(["out"] * 5000), ["out"] * 5000)
        self.no(read_choices, "", ",", "yes,", ",yes", "yes,,no", "yes no", "yes,maybe", "Yes", "-,yes", "yes,-", " yes", "yes ", "yes\n", "start", "yes.no", "--", "n")


class ResultTest(ReadersCase):
    def test_results(self):
        self.reads("result", "a", A)
        self.reads("result", "disk#12", ("seen", "disk", 12))
        self.reads("result", "f()", made("f"))
        self.reads("result", "join(f(a),disk#0,g())", made("join", made("f", A), ("seen", "disk", 0), made("g")))
        self.no(read_result, "", "-", "a ", " a", "a\n", "A", "abcdefghi", "abcdefghi()", "a b", "a,b", "#1", "c#", "c #1", "c# 1", "C#1", "c#1#2", "f(", "f)", "f(a", "f(a))", "f(a)b", "f(a)(b)",
                "f(a,)", "f(,a)", "f(a,,b)", "f(a b)", "f(a, b)", "f( )", "f(-)", "f (a)", "(a)", "f(a,b,a,b)", "f(a.b)", "f((a))", "f[a]", "f()()", "f(a)#1", "c#1(a)", "f(c#)", "1", "f(1)", "[a]",
                "f(a,b(),c#1,d())", "f" * 100000, "f(" * 100000, "f(" + "a," * 50000 + "a)", "c#" + "1" * 100000)

    def test_brackets_deep_within_one_another(self):
        for inner in ("", "a", "c#3", "a,b,a"):
            for deep in (1, 20, 39, 40):
                text = "f(" * deep + inner + ")" * deep
                self.assertEqual(show_result(read_result(text)), text)
            for deep in (41, 42, 80, 2000):
                text = "f(" * deep + inner + ")" * deep
                self.no(read_result, text, "g(a," + text + ")")

    def test_wide_results(self):
        text = "a"
        for _ in range(8):
            text = f"f({text},{text},{text})"
        self.assertEqual(show_result(read_result(text)), text)


class DeedTest(ReadersCase):
    def test_each_deed(self):
        for text, deed in (
            ("put 0\ncheck x\n", ("put", (0,), CHECK_X)), ("put 1.0.0\nloop\nround\nback\n", ("put", (1, 0, 0), ("loop", (), ()))), ("out 3", ("out", (3,))),
            ("move 2 1.1.0", ("move", (2,), (1, 1, 0))), ("name x out", ("name", "x", "out")), ("keep", ("keep",)),
            ("put 2\nwrite log a\n", ("put", (2,), frozen(LOG))),
        ):
            self.reads("deed", text, deed)

    def test_wrong_deeds(self):
        self.no(
            read_deed, "", "\n", " ", "keep\n", "keep ", " keep", "keep -", "Keep", "out", "out ", "out  3", "out 3 ", "out 3\n", "out 3 4", "out 1.0", "out -", "out x", "out (3,)", "move 2", "move 2 ",
            "move 2 1 0", "move  2 1", "move 2,1", "move 2 1\n", "move 2 1.1", "name x", "name x y z", "name x Y", "name x -", "name x  y", "name x y\n", "name abcdefghi x", "put 0", "put 0\n",
            "put 0 check x", "put 0\ncheck x", "put 0\ncheck x\n\n", "put 0\ncheck x\ncheck x\n", "put\ncheck x\n", "put 0 \ncheck x\n", "put  0\ncheck x\n", "put 0.0\ncheck x\n", "put 0\n\ncheck x\n",
            "put 0 1\ncheck x\n", "out 0\ncheck x\n", "do 1", "back", "again", "program", "put 0\nput 0\ncheck x\n", "put x\ncheck x\n", "put 0\nmake x f a,b,c,d\n", "keep\ncheck x\n", "put 0\nkeep",
        )

    def test_of_a_book(self):
        book = Book(program(CHECK_X))
        for deed in (("move", (0,), (1,)), ("put", (3,), ("loop", [LOG], [])), ("name", "x", "else"), ("keep",), ("out", (3,))):
            book.do(read_deed(show_deed(deed)))
            self.assertEqual(book.log()[-1], kept(deed))
        for deed in (("out", (9,)), ("put", (9,), ("loop", [LOG], [])), ("name", "nobody", "else")):
            self.fails(Refused, book.do, read_deed(show_deed(deed)), deed=kept(deed))


class ValuesTest(ReadersCase):
    def test_any_values(self):
        for value in any_values() + [program(), ("check", "x"), ["yes"], b"check x\n", ("keep",)]:
            for kind, (_, read) in PAIRS.items():
                if (kind, value) == ("result", "a"):
                    continue
                self.no(read, value)


if __name__ == "__main__":
    unittest.main()
