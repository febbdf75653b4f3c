"""The rules of the language subset that can be seen in the files, as far as this package comes near them."""

import ast
import pathlib
import re
import unittest
import warnings

PACKAGE = pathlib.Path(__file__).resolve().parent.parent / "movedchecks"
FILES = sorted(PACKAGE.rglob("*.py"))

BUILTINS = set(
    "len range enumerate zip min max sum abs sorted reversed int str bool bytes list tuple dict set frozenset "
    "isinstance ord repr any all divmod iter next map super property staticmethod classmethod object "
    "Exception ValueError TypeError KeyError IndexError LookupError ZeroDivisionError ArithmeticError OverflowError "
    "RuntimeError NotImplementedError AttributeError StopIteration NotImplemented True False None".split()
)
ALL_BUILTINS = set(dir(__import__("builtins")))
METHODS = set(
    "append clear copy count endswith extend find get index insert isalnum isalpha isdigit islower isspace isupper "
    "items join keys ljust lower lstrip partition pop remove replace reverse rfind rjust rpartition rsplit rstrip "
    "setdefault split splitlines startswith strip update upper values zfill bit_length isascii".split()
)
DOUBLE = {"__init__", "__eq__", "__repr__", "__str__", "__len__"}
BARRED = set(
    "register mro elements open input law version_info with_traceback add_note attrgetter breakpoint builtins compile "
    "copyright credits delattr dir eval exec exit gc getattr globals hasattr help id importlib license locals "
    "methodcaller os quit setattr type vars sys".split()
)
WORDS = set(
    "type typing typing_extensions enum Enum IntEnum StrEnum Flag IntFlag Generic Protocol ABC ABCMeta namedtuple "
    "NamedTuple TypedDict TYPE_CHECKING abstractmethod".split()
)
STATEMENTS = (
    ast.FunctionDef, ast.ClassDef, ast.Return, ast.Assign, ast.AugAssign, ast.For, ast.While, ast.If, ast.Raise,
    ast.Expr, ast.Pass, ast.Break, ast.Continue, ast.ImportFrom, ast.Delete, ast.Try,
)
NO_EXPRESSIONS = (ast.Await, ast.Set, ast.SetComp, ast.NamedExpr, ast.GeneratorExp, ast.JoinedStr)


def trees():
    for path in FILES:
        yield path, ast.parse(path.read_text())


def nodes(*kinds):
    for path, tree in trees():
        for node in ast.walk(tree):
            if isinstance(node, kinds):
                yield f"{path.name}:{getattr(node, 'lineno', 0)}", node


def imported():
    """The dict from the files to the modules of the package that they import from."""
    return {
        path.stem: [node.module.split(".")[-1] for node in tree.body if isinstance(node, ast.ImportFrom)]
        for path, tree in trees()
    }


class TextTest(unittest.TestCase):
    def test_files(self):
        found = [path for path in PACKAGE.rglob("*") if "__pycache__" not in path.parts]
        self.assertEqual(sorted(found), FILES)
        for path in FILES:
            self.assertRegex(path.name, r"^([a-z][a-z0-9]*|__init__)\.py$")
            self.assertNotIn(path.stem, ALL_BUILTINS)

    def test_lines(self):
        for path in FILES:
            data = path.read_bytes()
            self.assertTrue(all(sign == 10 or 32 <= sign <= 126 for sign in data), path)
            lines = data.decode("ascii").split("\n")
            self.assertLessEqual(len(lines), 399, path)
            self.assertLessEqual(max(map(len, lines)), 120, path)
            self.assertNotIn("_wall", data.decode("ascii"))

    def test_no_warnings(self):
        with warnings.catch_warnings():
            warnings.simplefilter("error")
            for path in FILES:
                compile(path.read_text(), str(path), "exec")

    def test_strings(self):
        for place, node in nodes(ast.Constant):
            self.assertNotIsInstance(node.value, (float, complex), place)
            if isinstance(node.value, str):
                self.assertNotIn("%", node.value, place)
                self.assertNotRegex(node.value, r"(^|[^A-Za-z0-9_])__|\._$", place)

    def test_barred_words(self):
        for path, tree in trees():
            for node in ast.walk(tree):
                if isinstance(node, (ast.FunctionDef, ast.ClassDef, ast.Module)) and ast.get_docstring(node):
                    node.body[0].value.value = ""
            words = set(re.findall(r"\w+", ast.unparse(tree)))
            self.assertEqual(words & WORDS, set(), path)


class NamesTest(unittest.TestCase):
    def bound(self, tree):
        """All names that a file binds but for methods and attributes."""
        for node in ast.walk(tree):
            if isinstance(node, ast.Name) and isinstance(node.ctx, ast.Store):
                yield node.id
            elif isinstance(node, ast.arg):
                yield node.arg
        for node in tree.body:
            if isinstance(node, (ast.FunctionDef, ast.ClassDef)):
                yield node.name
            elif isinstance(node, ast.ImportFrom):
                yield from (alias.asname or alias.name for alias in node.names)

    def test_names(self):
        for path, tree in trees():
            for name in self.bound(tree):
                self.assertRegex(name, r"^_?[A-Za-z][A-Za-z0-9_]*$|^_$", path)
                self.assertNotIn(name, ALL_BUILTINS | BARRED, path)
            for node in ast.walk(tree):
                if isinstance(node, ast.ClassDef):
                    self.assertRegex(node.name, "^[A-Z]", path)
                if isinstance(node, ast.Name) and isinstance(node.ctx, ast.Load):
                    self.assertNotEqual(node.id, "_", path)

    def test_locals_have_no_names_of_imports_and_classes(self):
        for path, tree in trees():
            outer = {node.name for node in tree.body if isinstance(node, ast.ClassDef)}
            for node in tree.body:
                if isinstance(node, ast.ImportFrom):
                    outer |= {alias.name for alias in node.names}
            for node in ast.walk(tree):
                if isinstance(node, ast.Name) and isinstance(node.ctx, ast.Store):
                    self.assertNotIn(node.id, outer, path)
                elif isinstance(node, ast.arg):
                    self.assertNotIn(node.arg, outer, path)

    def test_module_names_are_bound_once(self):
        for path, tree in trees():
            names = []
            for node in tree.body:
                if isinstance(node, ast.Assign):
                    names += [target.id for target in node.targets]
                elif isinstance(node, ast.ImportFrom):
                    names += [alias.name for alias in node.names]
                elif isinstance(node, (ast.FunctionDef, ast.ClassDef)):
                    names.append(node.name)
            self.assertEqual(len(names), len(set(names)), path)

    def test_builtins(self):
        for path, tree in trees():
            known = set(self.bound(tree))
            for node in ast.walk(tree):
                if isinstance(node, ast.Name) and isinstance(node.ctx, ast.Load) and node.id not in known:
                    self.assertIn(node.id, BUILTINS, path)

    def test_methods_and_attributes(self):
        methods, properties, stored, values = {}, set(), {}, set()
        for path, node in nodes(ast.ClassDef):
            for part in node.body:
                if isinstance(part, ast.Assign):
                    ast.literal_eval(part.value)
                    values |= {target.id for target in part.targets}
                if isinstance(part, ast.FunctionDef):
                    methods.setdefault(part.name, []).append(node.name)
                    properties |= {part.name} if part.decorator_list else set()
        for place, node in nodes(ast.Attribute):
            if isinstance(node.ctx, ast.Store):
                stored.setdefault(node.attr, []).append(place)
                self.assertIsInstance(node.value, ast.Name, place)
        for name in methods:
            self.assertFalse(name.startswith("__") and name not in DOUBLE, name)
        self.assertEqual(set(methods) & set(stored) & properties, set())
        self.assertEqual(values & ({*methods} | {*stored}), set())
        self.assertEqual([name for name in properties if len(methods[name]) > 1], [])
        for place, node in nodes(ast.Attribute):
            self.assertIn(node.attr, METHODS | set(methods) | set(stored) | values, place)
            self.assertFalse(node.attr.startswith("__") and node.attr not in DOUBLE, place)


class ShapeTest(unittest.TestCase):
    def test_sizes(self):
        for place, node in nodes(ast.FunctionDef):
            self.assertLessEqual(node.end_lineno - node.lineno + 1, 40, place)

    def test_imports(self):
        for place, node in nodes(ast.ImportFrom, ast.Import):
            self.assertIsInstance(node, ast.ImportFrom, place)
            self.assertEqual(node.level, 0, place)
            self.assertRegex(node.module, r"^movedchecks\.[a-z]+$", place)
            module = ast.parse((PACKAGE / (node.module.split(".")[1] + ".py")).read_text())
            defined = {part.name for part in module.body if isinstance(part, (ast.FunctionDef, ast.ClassDef))}
            for part in module.body:
                defined |= {target.id for target in part.targets} if isinstance(part, ast.Assign) else set()
            for alias in node.names:
                self.assertIn(alias.name, defined, place)
                self.assertIsNone(alias.asname, place)

    def test_no_circles_of_imports(self):
        table, done = imported(), []
        while len(done) < len(table):
            ready = [name for name in table if name not in done and all(part in done for part in table[name])]
            self.assertNotEqual(ready, [])
            done += ready

    def test_all_that_is_imported_is_used(self):
        for path, tree in trees():
            used = {node.id for node in ast.walk(tree) if isinstance(node, ast.Name)}
            for node in tree.body:
                if isinstance(node, ast.ImportFrom):
                    self.assertLessEqual({alias.name for alias in node.names}, used, path)

    def test_module_level(self):
        for path, tree in trees():
            self.assertIsNotNone(ast.get_docstring(tree), path)
            for node in tree.body[1:]:
                self.assertIsInstance(node, (ast.ImportFrom, ast.FunctionDef, ast.ClassDef, ast.Assign), path)
                if isinstance(node, ast.Assign):
                    self.assertEqual(len(node.targets), 1, path)
                    ast.literal_eval(node.value)

    def test_statements_and_expressions(self):
        for place, node in nodes(ast.stmt):
            self.assertIsInstance(node, STATEMENTS, place)
            if isinstance(node, ast.FunctionDef):
                self.assertEqual([part.id for part in node.decorator_list], ["property"] * len(node.decorator_list))
            if isinstance(node, ast.Raise):
                self.assertIsInstance(node.exc, ast.Call, place)
                self.assertTrue(node.cause is None or ast.unparse(node.cause) == "None", place)
        for place, node in nodes(ast.expr):
            self.assertNotIsInstance(node, NO_EXPRESSIONS, place)
            if isinstance(node, ast.BinOp):
                self.assertNotIsInstance(node.op, (ast.Div, ast.Pow, ast.MatMult), place)
            if isinstance(node, ast.Compare) and any(isinstance(sign, (ast.Is, ast.IsNot)) for sign in node.ops):
                self.assertIsInstance(node.comparators[0], ast.Constant, place)

    def test_own_errors_alone_are_caught(self):
        errors = ast.parse((PACKAGE / "errors.py").read_text())
        own = {node.name for node in errors.body if isinstance(node, ast.ClassDef)}
        for place, node in nodes(ast.ExceptHandler):
            caught = node.type.elts if isinstance(node.type, ast.Tuple) else [node.type]
            self.assertLessEqual({part.id for part in caught}, own, place)
            self.assertIsNone(node.name, place)

    def test_what_is_done_in_any_case_is_plain(self):
        for place, node in nodes(ast.Try):
            for part in node.finalbody:
                self.assertIsInstance(part, ast.Assign, place)
                for inner in ast.walk(part):
                    self.assertIsInstance(inner, (ast.Assign, ast.Tuple, ast.Attribute, ast.Name, ast.expr_context), place)

    def test_nothing_is_nested_in_functions(self):
        for place, node in nodes(ast.FunctionDef):
            inner = [part for part in ast.walk(node) if isinstance(part, (ast.FunctionDef, ast.ClassDef, ast.Lambda))]
            self.assertEqual(len(inner), 1, place)

    def test_sets_stand_in_len_and_sorted_alone(self):
        allowed = set()
        for place, node in nodes(ast.Call):
            if isinstance(node.func, ast.Name) and node.func.id in ("len", "sorted") and not node.keywords:
                allowed |= {ast.dump(part, include_attributes=True) for part in node.args}
        for place, node in nodes(ast.Call):
            if isinstance(node.func, ast.Name) and node.func.id == "set":
                self.assertIn(ast.dump(node, include_attributes=True), allowed, place)

    def test_keywords_of_calls(self):
        allowed = [("max", "default"), ("min", "default")]
        for place, node in nodes(ast.FunctionDef):
            allowed += [(node.name, argument.arg) for argument in node.args.kwonlyargs]
        for place, node in nodes(ast.Call):
            if isinstance(node.func, ast.Attribute):
                self.assertEqual(node.keywords, [], place)
                self.assertNotEqual(node.func.attr, "sort", place)
            for keyword in node.keywords:
                self.assertIn((node.func.id, keyword.arg), allowed, place)
            for part in node.args:
                if isinstance(part, ast.Starred):
                    self.assertIsInstance(part.value, (ast.Name, ast.Attribute), place)
                    self.assertIs(part, node.args[-1], place)

    def test_iterators_are_used_on_the_spot(self):
        allowed = []
        for place, node in nodes(ast.For, ast.comprehension):
            allowed.append(ast.dump(node.iter, include_attributes=True))
        for place, node in nodes(ast.Call):
            if isinstance(node.func, ast.Name) and node.func.id in ("list", "tuple", "dict", "enumerate"):
                allowed += [ast.dump(part, include_attributes=True) for part in node.args[:1]]
        for place, node in nodes(ast.Call):
            name = node.func.id if isinstance(node.func, ast.Name) else node.func.attr
            if name in ("zip", "enumerate", "reversed", "range", "items", "keys", "values"):
                self.assertIn(ast.dump(node, include_attributes=True), allowed, place)


if __name__ == "__main__":
    unittest.main()
