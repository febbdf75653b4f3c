"""Point 51: faces, marks and moments."""

import itertools
import unittest

from movedchecks.marks import face_of, faces, faces_together, filled, marks, moment, parts
from tests import telling
from tests.makers import Dense
from tests.model import Machine, choices_up_to

A = ("in", "a")
C, D = ("seen", "c"), ("seen", "d")


def made(word, *inner):
    return ("made", word, inner)


def mark(channel, index):
    return ("mark", channel, index)


def all_trees():
    """Trees with none to four readings of one channel and of two, flat and nested."""
    for many in range(5):
        for readings in itertools.product((C, D), repeat=many):
            yield made("f", *readings[:2], made("g", A, *readings[2:]))
            yield made("f", made("g", *readings[:1]), made("h", made("k", *readings[1:4])), *readings[4:])


class FacesTest(unittest.TestCase):
    def test_examples(self):
        self.assertEqual(faces(A), [A])
        self.assertEqual(faces(C), [mark("c", 0)])
        self.assertEqual(faces(made("f")), [made("f")])
        self.assertEqual(faces(made("f", C, C)), [made("f", mark("c", 0), mark("c", 0)), made("f", mark("c", 0), mark("c", 1))])
        self.assertEqual(faces(made("f", C, D)), [made("f", mark("c", 0), mark("d", 0))])
        self.assertEqual(faces(made("f", D, C, D)), [made("f", mark("d", 0), mark("c", 0), mark("d", index)) for index in (0, 1)])
        self.assertEqual([len(faces(made("f", *[C] * many))) for many in range(4)], [1, 1, 2, 5])
        self.assertEqual(len(faces(made("f", C, C, made("g", C, C)))), 15)
        self.assertEqual(faces_together([C, C]), [(mark("c", 0), mark("c", 0)), (mark("c", 0), mark("c", 1))])
        self.assertEqual(faces_together([made("g", C), made("f", C)]), [
            (made("g", mark("c", 0)), made("f", mark("c", 0))), (made("g", mark("c", 0)), made("f", mark("c", 1)))])
        self.assertEqual(faces_together([A]), [(A,)])

    def test_all_numberings(self):
        for tree in all_trees():
            for _ in range(2):
                self.assertEqual(faces(tree), [together[0] for together in telling.faces_together([tree])])
                faces(tree).clear()

    def test_all_numberings_of_two(self):
        trees = [A, C, made("f"), made("f", C, D), made("f", C, C), made("f", D, made("g", D)), made("h", C, A, D)]
        for pair in itertools.product(trees, repeat=2):
            for _ in range(2):
                self.assertEqual(faces_together(list(pair)), telling.faces_together(pair))
                faces_together(list(pair)).clear()

    def test_arguments_stay(self):
        pair = [made("f", C), made("g", C, C)]
        faces_together(pair)
        self.assertEqual(pair, [made("f", C), made("g", C, C)])


class MarksTest(unittest.TestCase):
    def test_marks(self):
        both = (made("f", mark("d", 0), mark("c", 1), A), made("g", mark("c", 0), mark("c", 1)))
        for _ in range(2):
            self.assertEqual(marks(both), [mark("c", 0), mark("c", 1), mark("d", 0)])
            marks(both).clear()
        self.assertEqual([marks((A,)), marks((mark("c", 0),)), marks(())], [[], [mark("c", 0)], []])

    def test_parts(self):
        inner = made("g", A)
        both = (made("f", inner, mark("c", 0)), made("f", inner, inner))
        for _ in range(2):
            self.assertEqual(parts(both), sorted([both[0], both[1], inner, A, mark("c", 0)]))
            parts(both).clear()
        self.assertEqual([parts((A,)), parts((made("f"),)), parts(())], [[A], [made("f")], []])

    def test_random_faces(self):
        for tree in all_trees():
            for together in faces_together([tree, made("w", C)])[:4]:
                standing = sorted({part for face in together for part in telling.standing(face)})
                self.assertEqual(parts(together), standing)
                self.assertEqual(marks(together), [part for part in standing if part[0] == "mark"])


class FilledTest(unittest.TestCase):
    def test_filled(self):
        face = made("f", mark("c", 0), A, made("g", mark("d", 0), mark("c", 1), mark("c", 0)))
        numbers = {mark("d", 0): 10 ** 39, mark("c", 1): 0, mark("c", 0): 10 ** 40 - 1, mark("e", 5): 3}
        kept = dict(numbers)
        self.assertEqual(filled(face, numbers), made(
            "f", ("seen", "c", 10 ** 40 - 1), A, made("g", ("seen", "d", 10 ** 39), ("seen", "c", 0), ("seen", "c", 10 ** 40 - 1))))
        self.assertEqual((numbers, list(numbers)), (kept, list(kept)))
        self.assertEqual([filled(A, {}), filled(made("f"), {}), filled(mark("c", 0), {mark("c", 0): 4})],
                         [A, made("f"), ("seen", "c", 4)])

    def test_face_of(self):
        results = [("seen", "d", 5), made("f", ("seen", "c", 9), ("seen", "d", 5)), made("g", ("seen", "d", 4), ("seen", "c", 9))]
        for _ in range(2):
            told = face_of(results)
            self.assertEqual(told, (
                (mark("d", 0), made("f", mark("c", 0), mark("d", 0)), made("g", mark("d", 1), mark("c", 0))),
                {mark("c", 0): 9, mark("d", 0): 5, mark("d", 1): 4}))
            self.assertEqual(list(told[1]), [mark("c", 0), mark("d", 0), mark("d", 1)])
            self.assertIs(type(told), tuple)
            told[1].clear()
        self.assertEqual([face_of([]), face_of([A]), face_of([made("f")])], [((), {}), ((A,), {}), ((made("f"),), {})])
        self.assertEqual(face_of([("seen", "c", 10 ** 39)]), ((mark("c", 0),), {mark("c", 0): 10 ** 39}))

    def test_there_and_back(self):
        for tree in all_trees():
            for together in faces_together([tree, made("w", C)]):
                for step in (1, -1, 10 ** 39):
                    held = marks(together)
                    numbers = {part: 50 + step * place if step < 10 else step + place for place, part in enumerate(held)}
                    results = [filled(face, numbers) for face in together]
                    self.assertEqual(face_of(results), (together, numbers))

    def test_results_of_runs(self):
        for seed in range(15):
            one = Dense(seed).dense()
            for words in choices_up_to(one, 4)[-5:]:
                results = [event[2] for event in Machine(one, words).events if event[0] == "check"]
                together, numbers = face_of(results)
                self.assertEqual([filled(face, numbers) for face in together], results)
                self.assertEqual(sorted(numbers), marks(together))
                self.assertTrue(telling.in_order(together))


class MomentTest(unittest.TestCase):
    def test_moments(self):
        for first, second in itertools.product(range(5), repeat=2):
            for number in range(7):
                self.assertEqual(moment(number, first, second), telling.moment(number, first, second))

    def test_examples(self):
        self.assertEqual([moment(number, 4, 2) for number in range(6)], ["gone", "gone", "-2", "-1", "0", "later"])
        self.assertEqual([moment(number, 2, 4) for number in range(6)], ["gone", "gone", "0", "1", "2", "later"])
        self.assertEqual([moment(number, 3, 3) for number in (2, 3, 4)], ["gone", "0", "later"])
        self.assertEqual([moment(0, 0, 0), moment(0, 0, 12), moment(12, 0, 12), moment(0, 12, 0)], ["0", "0", "12", "-12"])
        self.assertEqual(moment(10 ** 39, 0, 10 ** 39), str(10 ** 39))


if __name__ == "__main__":
    unittest.main()
