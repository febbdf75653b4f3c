"""Point 90: a program that is edited, and the log of what was done."""

import random
import unittest

from movedchecks.alike import are_alike, is_parting, parting
from movedchecks.book import Book
from movedchecks.errors import Full, MoveError, NoDeed, NoEntry, Nothing, Refused, TooMany, Unlike, Wrong
from movedchecks.programs import Program
from movedchecks.rows import frozen
from tests.cases import CHECK_X, CHECK_Y, IF, LEAVE, LOG, X, Case, altered, full_of_things, many_stands, program
from tests.drawing import drawn_deed, drawn_form, drawn_program
from tests.model import all_rows
from tests.sheets import Sheet, or_error
from tests.values import any_values, nested

MADE = ("make", "z", "g", ["a"])


def edited_plainly(one, deed):
    """The Program behind a deed, put together by a sheet, None if it is refused."""
    try:
        if deed[0] == "put":
            return Sheet(one).put(deed[1], deed[2]).program()
        if deed[0] == "out":
            sheet = Sheet(one)
            sheet.take(deed[1])
            return sheet.program()
        if deed[0] == "move":
            inside = deed[1] == deed[2][:len(deed[1])] and len(deed[2]) > len(deed[1])
            return None if inside else Sheet(one).move(deed[1], deed[2]).program()
        if deed[0] == "name":
            names = {*one.inputs, *one.names()}
            if deed[1] not in names or deed[2] in names:
                return None
            return one.renamed({name: deed[2] if name == deed[1] else name for name in names})
        return one
    except (MoveError, AssertionError):
        return None


def kept(deed):
    return (*deed[:2], frozen(deed[2])) if deed[0] == "put" else deed


class Shadow:
    """A second telling of a Book: all that was done and undone, gone through from the beginning."""

    def __init__(self, one):
        self.one, self.done, self.undone = one, [], []

    def states(self):
        now = first = self.one
        for deed in self.done:
            now = edited_plainly(now, deed)
            first = now if deed[0] == "keep" else first
        return now, first


class BookCase(Case):
    def stands(self, book, shadow):
        now, first = shadow.states()
        for _ in range(2):
            self.assertEqual(book.program, now)
            self.assertEqual(book.first, first)
            self.assertEqual(book.log(), [kept(deed) for deed in shadow.done])
            self.assertEqual(len(book), len(shadow.done))
            book.log().append(1)

    def refused(self, book, deed):
        error = self.fails(Refused, book.do, deed, deed=kept(deed))
        return error


class DeedsTest(BookCase):
    def test_drawn_deeds(self):
        told = {}
        for seed in range(60):
            chance = random.Random(seed)
            one = drawn_program(seed)
            book, shadow = Book(one), Shadow(one)
            for _ in range(40):
                call = chance.random()
                if call < 0.6:
                    deed = drawn_deed(chance, book.program)
                    if edited_plainly(shadow.states()[0], deed) is None:
                        self.refused(book, deed)
                        told["refused"] = True
                    else:
                        self.assertIsNone(book.do(deed))
                        shadow.done.append(deed)
                        shadow.undone = []
                        told[deed[0]] = True
                elif call < 0.8:
                    if not shadow.done:
                        self.fails(Nothing, book.back)
                    else:
                        shadow.undone.append(shadow.done.pop())
                        self.assertEqual(book.back(), kept(shadow.undone[-1]))
                elif not shadow.undone:
                    self.fails(Nothing, book.again)
                else:
                    shadow.done.append(shadow.undone.pop())
                    self.assertEqual(book.again(), kept(shadow.done[-1]))
                    told["again"] = True
                self.stands(book, shadow)
        self.assertEqual(set(told), {"put", "out", "move", "name", "keep", "refused", "again"})

    def test_each_deed(self):
        one = program(CHECK_X, LOG, IF)
        book = Book(one)
        book.do(("move", (2,), (4,)))
        self.assertEqual(book.program, program(LOG, CHECK_X, IF))
        book.do(("put", (4, 0, 0), MADE))
        self.assertEqual(book.program, program(LOG, CHECK_X, ("if", [MADE], [], [])))
        book.do(("out", (3,)))
        self.assertEqual(book.program, program(LOG, ("if", [MADE], [], [])))
        book.do(("name", "z", "new"))
        self.assertEqual(book.program.names(), ["new", "x", "y"])
        self.assertEqual(book.first, one)
        book.do(("keep",))
        self.assertEqual([book.first == book.program, book.first == one], [True, False])
        self.assertEqual(book.log(), [("move", (2,), (4,)), ("put", (4, 0, 0), frozen(MADE)), ("out", (3,)), ("name", "z", "new"), ("keep",)])
        self.assertEqual(book.back(), ("keep",))
        self.assertEqual(book.first, one)
        self.assertEqual(book.again(), ("keep",))
        self.assertEqual(book.first, book.program)
        book.do(("name", "new", "keep"))
        self.assertEqual([book.first == book.program, book.first], [False, book.past(5).program])

    def test_names(self):
        rows = [("if", [], [], [("j", "a", "b")]), ("check", "j"), ("write", "a", ["a", "j"])]
        book = Book(Program(["a", "b"], rows))
        book.do(("name", "a", "zz"))
        self.assertEqual(book.program, Program(["zz", "b"], [("if", [], [], [("j", "zz", "b")]), ("check", "j"), ("write", "a", ["zz", "j"])]))
        book.do(("name", "j", "a"))
        self.assertEqual(book.program, Program(["zz", "b"], [("if", [], [], [("a", "zz", "b")]), ("check", "a"), ("write", "a", ["zz", "a"])]))
        for elder, new in (("a", "a"), ("a", "b"), ("zz", "a"), ("j", "k"), ("k", "l"), ("nobody", "nobody"), ("b", "zz")):
            self.refused(book, ("name", elder, new))
        self.fails(Unlike, book.is_safe)
        self.fails(Unlike, book.parting)
        book.do(("keep",))
        self.assertIs(book.is_safe(), True)

    def test_rows_that_change_behind(self):
        args, lists, joins = ["a"], [CHECK_X], [("j", "a", "a")]
        lists.append(("write", "log", args))
        book = Book(program())
        row = ("if", lists, [], joins)
        book.do(("put", (2,), row))
        args.append("x"), lists.clear(), joins.append(1)
        wanted = ("if", (CHECK_X, ("write", "log", ("a",))), (), (("j", "a", "a"),))
        self.assertEqual(book.log(), [("put", (2,), wanted)])
        self.assertEqual(book.program.rows()[2:], [wanted])
        self.assertEqual([book.back(), book.again()], [("put", (2,), wanted)] * 2)
        told = ["nobody"]
        error = self.fails(Refused, book.do, ("put", (2,), ("write", "c", told)), deed=("put", (2,), ("write", "c", ("nobody",))))
        told.clear()
        self.assertEqual(error.deed[2][2], ("nobody",))

    def test_refused(self):
        book = Book(program(CHECK_X, ("loop", [], [LOG]), LEAVE))
        for deed in (
            ("out", (9,)), ("out", (3, 0, 0)), ("out", (0,)), ("put", (9,), LOG), ("put", (3, 2, 0), LOG), ("put", (5,), LOG), ("put", (0,), MADE[:1] + ("x",) + MADE[2:]),
            ("put", (0,), CHECK_X), ("put", (2,), LEAVE), ("put", (0,), ("loop", [("loop", [], [("loop", [], [("loop", [], [])])])], [])),
            ("put", (0,), ("loop", [LOG] * 20, [])), ("put", (0,), ("make", "z", "f", ["nobody"])), ("move", (9,), (0,)), ("move", (0,), (9,)),
            ("move", (3,), (3, 1, 0)), ("move", (4,), (0,)), ("move", (0,), (3,)), ("name", "x", "y"), ("name", "q", "r"), ("put", (10 ** 30,), LOG),
        ):
            self.refused(book, deed)
            self.assertEqual([len(book), book.log()], [0, []])
        book.do(("put", (2,), MADE))
        book.back()
        self.refused(book, ("out", (0,)))
        self.fails(NoDeed, book.do, ("out", 0))
        self.assertEqual(book.again(), ("put", (2,), frozen(MADE)))

    def test_no_deeds(self):
        book = Book(program(CHECK_X))
        deep = LOG
        for _ in range(30):
            deep = ("loop", [deep], [])
        for deed in any_values() + [
            ("keep", 0), ["keep"], "keep", ("Keep",), ("out",), ("out", [2]), ("out", (2,), (2,)), ("out", 2), ("out", ()), ("out", (2, 0)),
            ("out", (-1,)), ("out", (True,)), ("move", (2,)), ("move", (2,), 3), ("move", 2, (3,)), ("move", [2], (3,)), ("move", (2, 0), (3,)), ("move", (2,), (3, 0)), ("move", (2,), [3]), ("move", (2,), (3,), (4,)),
            ("put", (2,)), ("put", (2,), LOG, LOG), ("put", 2, LOG), ("put", (2,), list(LOG)), ("put", (2,), ("write", "C", [])),
            ("put", (2,), ("write", "c", list("abcd"))), ("put", (2,), [LOG]), ("put", (2,), ("if", [], [])), ("name", "x"), ("name", "x", "y", "z"),
            ("name", "x", "Y"), ("name", "", "y"), ("name", "x", ["y"]), ("name", True, "y"), ("do", (2,)), (book, book), book, (("keep",),), (None, (0,)),
            ("put", (2,), ("loop", [nested("a", 20)], [])),
        ]:
            self.fails(NoDeed, book.do, deed)
        self.assertEqual([len(book), book.program], [0, program(CHECK_X)])
        self.refused(book, ("put", (2,), deep))

    def test_altered_deeds(self):
        told = {True: 0, False: 0}
        for seed in range(200):
            chance = random.Random(seed)
            deed = altered(chance, drawn_form(chance))
            try:
                Book(program()).do(deed)
                truth = True
            except NoDeed:
                truth = False
            except Refused as error:
                self.assertEqual(error.deed, kept(deed))
                truth = True
            told[truth] += 1
        self.assertGreater(min(told.values()), 20)

    def test_full(self):
        book = Book(program(IF))
        for _ in range(100):
            book.do(("put", (2,), LOG))
            book.do(("out", (2,)))
        self.assertEqual([Book.MOST, book.MOST, len(book)], [200, 200, 200])
        for deed in (("keep",), ("out", (99,)), ("out", (2,)), ("put", (2,), LOG)):
            self.fails(Full, book.do, deed, limit=200)
        self.fails(NoDeed, book.do, ("keep", 0))
        self.assertEqual(book.back(), ("out", (2,)))
        self.assertEqual(len(book), 199)
        self.refused(book, ("out", (99,)))
        self.assertEqual(book.again(), ("out", (2,)))
        self.fails(Full, book.do, ("keep",), limit=200)
        book.back()
        book.do(("keep",))
        self.fails(Nothing, book.again)
        self.assertEqual([len(book), len(book.log()), book.first], [200, 200, program(LOG, IF)])


class PastTest(BookCase):
    def test_all_numbers(self):
        for seed in range(12):
            chance, one = random.Random(seed), drawn_program(seed)
            book, shadow = Book(one), Shadow(one)
            for _ in range(30):
                deed = drawn_deed(chance, book.program)
                if edited_plainly(book.program, deed) is not None:
                    book.do(deed)
                    shadow.done.append(deed)
            for _ in range(3):
                if shadow.done:
                    book.back()
                    shadow.undone.append(shadow.done.pop())
            for many in range(len(book) + 1):
                elder = Shadow(one)
                elder.done = shadow.done[:many]
                past = book.past(many)
                self.stands(past, elder)
                self.fails(Nothing, past.again)
                self.assertIs(past == book, many == len(book))
                past.do(("keep",))
                self.stands(book, shadow)
            for many in (-1, len(book) + 1, len(book) + 3, 200, -200, 10 ** 30):
                self.fails(NoEntry, book.past, many, many=many)
            self.stands(book, shadow)
            self.assertEqual(len(book.past(0)), 0)

    def test_copied(self):
        book = Book(program(CHECK_X, LOG))
        book.do(("out", (3,))), book.do(("keep",)), book.do(("out", (2,))), book.back()
        copy = book.copied()
        self.assertTrue(copy == book and not copy != book)
        self.assertEqual([copy.first, copy.program, copy.log()], [book.first, book.program, book.log()])
        self.assertEqual(copy.again(), ("out", (2,)))
        self.assertEqual([len(copy), len(book)], [3, 2])
        self.assertEqual(book.again(), ("out", (2,)))
        copy.back(), copy.do(("put", (0,), LOG))
        self.fails(Nothing, copy.again)
        self.assertEqual(book.log()[2], ("out", (2,)))
        self.assertFalse(copy == book)
        book.back(), book.back(), book.back()
        self.assertEqual([len(copy), copy.first == book.first], [3, False])

    def test_equal(self):
        book = Book(program(CHECK_X))
        other = Book(program(CHECK_X))
        self.assertTrue(book == other and not book != other)
        book.do(("put", (2,), LOG))
        self.assertTrue(book != other and not book == other)
        other.do(("put", (2,), ("write", "log", ("a",))))
        self.assertTrue(book == other)
        book.do(("out", (2,)))
        book.back()
        self.assertIs(book == other, True)
        again = Book(program(LOG, CHECK_X))
        self.assertFalse(again == book)
        self.assertFalse(Book(program(CHECK_X)) == Book(program(CHECK_Y)))
        self.assertTrue(Book(Program(["b", "a"], [])) == Book(Program(["a", "b"], [])))
        for thing in (None, 0, program(CHECK_X), book.log(), [book], True):
            self.assertTrue(book != thing and not book == thing)
        with self.assertRaises(TypeError):
            iter(book)

    def test_wrong(self):
        for value in any_values() + [Book(program()), [program()], Program]:
            self.fails(Wrong, Book, value, place=0)


class TrialTest(BookCase):
    def some(self):
        book = Book(program(CHECK_X, LOG))
        book.do(("keep",)), book.do(("put", (2,), LOG)), book.do(("out", (2,))), book.back()
        return book

    def edit(self, book):
        book.again(), book.back(), book.do(("out", (3,))), book.do(("keep",)), book.back(), book.back(), book.back(), book.back()
        book.do(("move", (3,), (2,)))
        return book

    def as_ahead(self, book):
        self.assertEqual([book.program, book.first], [program(LOG, CHECK_X, LOG), program(CHECK_X, LOG)])
        self.assertEqual(book.log(), [("keep",), ("put", (2,), frozen(LOG))])
        self.assertTrue(book == book.copied())
        copy = book.copied()
        self.assertEqual([copy.again(), copy.program], [("out", (2,)), program(CHECK_X, LOG)])
        self.fails(Nothing, copy.again)

    def test_ends_well(self):
        book = self.some()
        for _ in range(2):
            self.assertIs(book.trial(self.edit), book)
            self.as_ahead(book)
        told = ["any"]
        self.assertIs(book.trial(lambda part: told), told)
        self.assertIsNone(book.trial(lambda part: part.do(("keep",))))
        self.as_ahead(book)
        self.assertEqual(book.trial(lambda part: (part.back(), len(part), part is book)), (("put", (2,), frozen(LOG)), 1, True))
        self.as_ahead(book)

    def test_errors_go_on(self):
        book = self.some()

        def fail(part):
            self.edit(part)
            raise KeyError("gone")

        def refuse(part):
            self.edit(part)
            part.do(("out", (99,)))

        for _ in range(2):
            with self.assertRaises(KeyError):
                book.trial(fail)
            self.as_ahead(book)
            self.fails(Refused, book.trial, refuse, deed=("out", (99,)))
            self.fails(NoDeed, book.trial, lambda part: part.do(None))
            self.as_ahead(book)
        with self.assertRaises(KeyboardInterrupt):
            book.trial(lambda part: (self.edit(part), (_ for _ in ()).throw(KeyboardInterrupt())))
        self.as_ahead(book)

    def test_one_within_another(self):
        book = self.some()

        def outer(part):
            part.back()
            self.assertEqual(part.trial(lambda inner: (inner.back(), len(inner))[1]), 0)
            self.assertEqual([part.log(), part.again(), part.again()], [[("keep",)], ("put", (2,), frozen(LOG)), ("out", (2,))])
            with self.assertRaises(Nothing):
                part.trial(lambda inner: inner.again())
            part.do(("name", "x", "zz"))
            return part.copied()

        copy = book.trial(outer)
        self.as_ahead(book)
        self.assertEqual([len(copy), copy.log()[-1]], [4, ("name", "x", "zz")])
        book.again()
        self.assertEqual(book.log()[-1], ("out", (2,)))

    def test_a_full_book(self):
        book = Book(program())
        for _ in range(199):
            book.do(("keep",))
        self.fails(Full, book.trial, lambda part: [part.do(("keep",)) for _ in range(2)], limit=200)
        self.assertEqual(len(book), 199)


class SafeTest(BookCase):
    def test_drawn_deeds(self):
        told = {}
        for seed in range(60):
            chance, one = random.Random(seed), drawn_program(seed)
            book = Book(one)
            for _ in range(4):
                deed = drawn_deed(chance, book.program)
                if edited_plainly(book.program, deed) is not None and len(list(all_rows(one.rows()))) < 15:
                    book.do(deed)
                for most in (3, 2000):
                    wanted = or_error(lambda: are_alike(book.first, book.program, most=most))
                    found = or_error(lambda: book.is_safe(most=most))
                    self.assertEqual(found, wanted)
                    told[repr(found if isinstance(found, bool) else found[0].__name__)] = True
                    self.assertEqual(or_error(lambda: book.parting(most=most)), or_error(lambda: parting(book.first, book.program, most=most)))
        self.assertEqual(set(told), {"True", "False", "'Unlike'", "'TooMany'"})

    def test_by_name(self):
        book = Book(program(CHECK_X, LOG))
        self.assertEqual([book.is_safe(), book.parting()], [True, None])
        book.do(("move", (2,), (4,)))
        self.assertEqual([book.is_safe(), book.parting()], [False, ([], [X])])
        found = book.parting()
        found[0].append(1), found[1].append(1)
        self.assertTrue(is_parting(book.first, book.program, book.parting()))
        book.do(("keep",))
        self.assertEqual([book.is_safe(), book.parting()], [True, None])
        book.do(("put", (0,), IF))
        self.fails(Unlike, book.is_safe)
        self.fails(Unlike, book.parting)
        self.assertEqual(len(book), 3)
        book.do(("put", (4,), CHECK_Y))
        book.back()

    def test_too_many(self):
        book = Book(many_stands()[0])
        for call in (book.is_safe, book.parting):
            self.fails(TooMany, call, most=2000)
            with self.assertRaises(TooMany):
                call(most=10)
        self.assertEqual([book.is_safe(most=20000), book.parting(most=20000)], [True, None])
        one, _, more = full_of_things()
        full = Book(Program(["a"], one.rows() + more.rows()[-1:]))
        self.fails(TooMany, lambda: full.is_safe(most=20000), most=300)


if __name__ == "__main__":
    unittest.main()
