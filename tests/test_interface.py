"""The interface at the end of the document: names, arguments, and the files in which they are defined."""

import ast
import inspect
import importlib
import pathlib
import unittest

PACKAGE = pathlib.Path(__file__).resolve().parent.parent / "movedchecks"

FUNCTIONS = {
    "kinds": ["is_integer(thing)", "is_name(thing)", "is_address(thing)", "are_names(thing, most)",
              "are_choices(thing)"],
    "rows": ["is_row(thing)", "are_rows(thing)", "frozen(row)", "with_lists(row, lists)", "renamed(row, names)",
             "lists_of(row)", "makes(row)", "uses(row)", "count(rows)", "depth(rows)"],
    "skeletons": ["skeleton(program)", "is_comparable(one, other)", "forks(program)", "words_at(fork)",
                  "fork_behind(program, fork, word)", "stretch(program, fork, word)", "in_sight_at(program, fork)",
                  "row_at_fork(program, fork)", "is_whole(program, thing)", "whole_choices(program, most)"],
    "results": ["is_result(thing)", "are_bad(thing)", "word_of(result)", "within(result)", "later(result, numbers)"],
    "playing": ["events(program, choices)", "fork_at(program, choices)", "results_at(program, choices)",
                "written_at(program, choices)", "play(program, choices, bad)", "stops_at(program, choices, bad)"],
    "differences": ["first_checks(program, choices)", "normal_form(program, choices)",
                    "differences(one, other, choices)", "is_same(one, other, choices)",
                    "least_bad(one, other, choices)"],
    "lags": ["lags(one, other)", "lag_choices(one, other)", "greatest_lag(one, other)"],
    "trees": ["trees(program, name)", "checked_trees(program)", "written_trees(program)", "tree_of(result)"],
    "marks": ["faces(tree)", "faces_together(trees)", "marks(faces)", "parts(faces)", "filled(face, numbers)",
              "face_of(results)", "moment(number, first, second)"],
    "stands": ["things(one, other)", "stand(one, other, thing, numbers, choices, *, number=0)"],
    "steps": ["beginning(one, other, thing)", "behind(one, other, thing, stand, word)"],
    "forms": ["is_stand(one, other, thing, value)"],
    "followed": ["stands(one, other, thing, *, most=2000)"],
    "broken": ["breaking(one, other, thing, *, most=2000)", "first_broken(one, other, *, most=2000)"],
    "alike": ["are_alike(one, other, *, most=2000)", "parting(one, other, *, most=2000)",
              "is_parting(one, other, value)", "classes(programs, *, most=2000)"],
    "tables": ["table(one, other, *, most=2000)", "is_table(one, other, value)", "is_lags(one, other, value)"],
    "places": ["reach(program, address)", "places(program, address, *, most=2000)",
               "earliest(program, address, *, most=2000)", "place_parting(program, address, gap, *, most=2000)"],
    "passes": ["can_pass(first, second)", "barrier(first, second)", "exchanged(program, address)",
               "risen(program, address)"],
    "joins": ["pairs(program)", "joinable(program, *, most=2000)", "spare(program, *, most=2000)",
              "joined(program, pair)"],
    "lots": ["done(program, deeds)", "right_lots(program, deeds, *, most=2000)",
             "greatest_lots(program, deeds, *, most=2000)", "barring(program, deeds, *, most=2000)",
             "needing(program, deeds, *, most=2000)", "lot_parting(program, deeds, lot, *, most=2000)"],
    "compilers": ["steps(program, compiler)", "stepped(program, step)", "outcomes(program, compiler, *, texts=40)",
                  "is_sound(program, compiler, *, texts=40, most=2000)",
                  "unsound(program, compiler, *, texts=40, most=2000)"],
    "notation": ["show_row(row)", "show_program(program)", "show_address(address)", "show_choices(choices)",
                 "show_result(result)", "show_seen(seen)", "show_deed(deed)"],
    "readers": ["read_row(text)", "read_program(text)", "read_address(text)", "read_choices(text)",
                "read_result(text)", "read_deed(text)"],
}
CLASSES = {
    ("programs", "Program"): ["__init__(self, inputs, rows)", "__eq__(self, other)", "__len__(self)", "inputs(self)",
                              "rows(self)", "addresses(self)", "row_at(self, address)", "gaps(self)",
                              "in_sight(self, gap)", "names(self)", "row_of(self, name)", "used_channels(self)",
                              "put(self, gap, row)", "out(self, address)", "moved(self, address, gap)",
                              "renamed(self, names)"],
    ("playing", "Run"): ["__init__(self, program, bad=())", "__eq__(self, other)", "go(self, word)", "back(self)",
                         "fork(self)", "end(self)", "choices(self)", "events(self)", "written(self)",
                         "results(self)", "copied(self)"],
    ("sides", "Sides"): ["__init__(self, one, other, bad=())", "__eq__(self, other)", "__len__(self)",
                         "go(self, word)", "back(self)", "at_fork(self)", "choices(self)", "checked(self, side)",
                         "seen(self)", "lag(self, channel)", "is_parted(self)", "copied(self)"],
    ("book", "Book"): ["__init__(self, program)", "__eq__(self, other)", "__len__(self)", "program(self)",
                       "first(self)", "do(self, deed)", "back(self)", "again(self)", "past(self, many)",
                       "copied(self)", "log(self)", "is_safe(self, *, most=2000)", "parting(self, *, most=2000)",
                       "trial(self, act)"],
    ("desk", "Desk"): ["__init__(self, program)", "execute(self, line)"],
}


def shown(definition):
    return f"{definition.name}({ast.unparse(definition.args)})"


def definitions(module, kind):
    tree = ast.parse((PACKAGE / f"{module}.py").read_text())
    return {node.name: node for node in tree.body if isinstance(node, kind)}


class InterfaceTest(unittest.TestCase):
    def test_functions(self):
        for module, listed in FUNCTIONS.items():
            found = {shown(node) for node in definitions(module, ast.FunctionDef).values()}
            self.assertLessEqual(set(listed), found, module)
            thing = importlib.import_module(f"movedchecks.{module}")
            for name in (text.split("(")[0] for text in listed):
                self.assertTrue(inspect.isfunction(getattr(thing, name)))

    def test_classes(self):
        for (module, name), listed in CLASSES.items():
            node = definitions(module, ast.ClassDef)[name]
            found = {shown(part) for part in node.body if isinstance(part, ast.FunctionDef)}
            self.assertLessEqual(set(listed), found, name)

    def test_properties_and_the_generator(self):
        for module, name, fields in (
            ("programs", "Program", ["inputs"]), ("playing", "Run", ["end", "fork"]), ("sides", "Sides", []),
            ("book", "Book", ["first", "program"]), ("desk", "Desk", []),
        ):
            made = getattr(importlib.import_module(f"movedchecks.{module}"), name)
            found = [field for field, thing in vars(made).items() if isinstance(thing, property)]
            self.assertEqual(sorted(found), fields)
        whole_choices = importlib.import_module("movedchecks.skeletons").whole_choices
        self.assertTrue(inspect.isgeneratorfunction(whole_choices))

    def test_objects_are_not_iterated_over(self):
        program = importlib.import_module("movedchecks.programs").Program([], [])
        things = [program, importlib.import_module("movedchecks.sides").Sides(program, program)]
        for module, name in (("playing", "Run"), ("book", "Book"), ("desk", "Desk")):
            things.append(getattr(importlib.import_module(f"movedchecks.{module}"), name)(program))
        for thing in things:
            self.assertRaises(TypeError, iter, thing)


if __name__ == "__main__":
    unittest.main()
