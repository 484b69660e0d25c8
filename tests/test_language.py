"""The rules for the files of the package, as far as a short test can see them."""

import ast
import builtins
import inspect
import unittest
from importlib import import_module
from pathlib import Path

PACKAGE = Path(__file__).resolve().parent.parent / "lookrows"

BUILTINS = set(
    "len range enumerate zip min max sum abs sorted reversed int str bool bytes list tuple dict set isinstance ord"
    " repr any all divmod pow getattr hasattr setattr iter next map ValueError TypeError KeyError IndexError"
    " LookupError ZeroDivisionError StopIteration NotImplemented property staticmethod classmethod super".split()
)
SPECIAL = set(
    "init eq repr str len enter exit call iter lt le gt ge ne add sub mul floordiv mod pow and or xor lshift rshift"
    " radd rsub rmul rfloordiv rmod rand ror rxor rlshift rrshift iadd isub imul ifloordiv imod ipow iand ior ixor"
    " ilshift irshift neg pos invert abs bool contains getitem setitem".split()
)
LIBRARY = {"heapq", "math", "itertools", "collections"}
BARRED = (
    ast.Global, ast.AsyncFunctionDef, ast.AsyncFor, ast.AsyncWith, ast.Await, ast.Import, ast.Div, ast.MatMult,
)
WORDS = {"mro", "elements", "open", "input", "law", "type", "typing", "enum", "eval", "exec", "globals", "vars", "id"}

# The functions and classes of the interface, by their files, with the methods and properties that each class defines
# itself.
FUNCTIONS = {
    "plans": ["joined"], "ways": ["way", "lean", "needed"], "runs": ["watched", "counted"], "rows": ["shortest"],
    "taking": ["taken", "run_for", "reaching"], "alike": ["parting_row", "parting_plan", "table", "plan_of"],
    "logs": ["run_of", "sure"], "wishes": ["broken", "unkept", "fewest_looks", "bridged"], "desks": ["tried"],
    "times": ["timed_watched", "timed_taken", "timed_run_for", "older"],
}
CLASSES = {
    "plans": {"Plan": (
        "__init__ define __getitem__ __setitem__ step_of files_of rules copy __contains__ __len__ __le__ __or__"
        " __ior__",
        "steps files",
    )},
    "bounds": {"Bounds": (
        "__init__ __getitem__ __setitem__ ring closed spread sets __call__ __contains__ __len__ __bool__ __and__ __or__"
        " __iand__ __ior__ __le__ __neg__ __lshift__ __rshift__",
        "names",
    )},
    "rows": {"Row": (
        "__init__ before blocks __getitem__ __len__ __contains__ __add__ __mul__ __rmul__ __neg__ __eq__ __le__",
        "looks files",
    )},
    "times": {"Timed": ("__init__ __getitem__ __setitem__ least within", "plan")},
    "desks": {"Desk": (
        "__init__ enter do look __getitem__ __len__ told passes possible known __iadd__ back trial want broken",
        "readers wanted",
    )},
    "books": {"Book": (
        "__init__ __getitem__ __setitem__ __contains__ __len__ change written report keeping", "plan wishes names",
    )},
}
# How sorted, min and max may be asked beside classes with an order: with numbers or strings that are plainly such.
PLAIN_CALLS = {"int", "len", "str", "ord", "repr", "range"}


def files():
    return sorted(PACKAGE.glob("*.py"))


def trees():
    for file in files():
        yield file.stem, ast.parse(file.read_text(encoding="utf-8"))


def is_plain(node):
    """Whether the code shows that this is a number, or a list of numbers or strings."""
    if isinstance(node, ast.ListComp):
        return is_plain(node.elt)
    called = node.func.id if isinstance(node, ast.Call) and isinstance(node.func, ast.Name) else None
    return isinstance(node, ast.Constant) or called in PLAIN_CALLS


class LanguageTest(unittest.TestCase):
    def test_the_folder_holds_plain_files_only(self):
        for path in PACKAGE.iterdir():
            if path.name != "__pycache__":
                self.assertRegex(path.name, r"^(__init__|[a-z][a-z0-9_]*)\.py$")

    def test_characters_and_sizes(self):
        for file in files():
            text = file.read_text(encoding="utf-8")
            self.assertTrue(all(" " <= x <= "~" or x == "\n" for x in text), file.name)
            self.assertLessEqual(len(text.splitlines()), 399, file.name)
            self.assertLessEqual(max(map(len, text.splitlines())), 120, file.name)

    def test_functions_are_short(self):
        for name, tree in trees():
            for node in ast.walk(tree):
                if isinstance(node, ast.FunctionDef):
                    self.assertLessEqual(node.end_lineno - node.lineno + 1, 40, (name, node.name))

    def test_imports(self):
        for name, tree in trees():
            for node in ast.walk(tree):
                if isinstance(node, ast.ImportFrom):
                    self.assertIn(node, tree.body)
                    self.assertEqual(node.level, 0)
                    self.assertTrue(node.module in LIBRARY or node.module.startswith("lookrows."), (name, node.module))

    def test_statements_and_values(self):
        for name, tree in trees():
            for node in ast.walk(tree):
                self.assertNotIsInstance(node, BARRED, (name, getattr(node, "lineno", 0)))
                if isinstance(node, ast.Constant):
                    self.assertNotIsInstance(node.value, (float, complex), (name, node.lineno))

    def test_names(self):
        for name, tree in trees():
            for node in ast.walk(tree):
                word = getattr(node, "id", None) or getattr(node, "attr", None) or getattr(node, "arg", None)
                if isinstance(word, str):
                    self.assertNotIn(word, WORDS, (name, node.lineno))
                if isinstance(node, ast.Name) and hasattr(builtins, node.id):
                    self.assertIn(node.id, BUILTINS, (name, node.lineno))
                    self.assertIsInstance(node.ctx, ast.Load, (name, node.lineno))

    def test_classes(self):
        for name, tree in trees():
            for node in ast.walk(tree):
                if isinstance(node, ast.ClassDef):
                    methods = [part.name for part in node.body if isinstance(part, ast.FunctionDef)]
                    for method in methods:
                        if method.startswith("__"):
                            self.assertIn(method.strip("_"), SPECIAL, (name, node.name))
                    if "__getitem__" in methods:
                        self.assertIn("__iter__", methods, (name, node.name))

    def test_what_is_put_in_order_is_plain(self):
        for name, tree in trees():
            for node in ast.walk(tree):
                if isinstance(node, ast.Call) and isinstance(node.func, ast.Name):
                    if node.func.id in ("sorted", "min", "max"):
                        keys = [word.value.id for word in node.keywords if word.arg == "key"]
                        plain = keys and keys[0] in ("len", "int", "str") or any(map(is_plain, node.args))
                        self.assertTrue(plain, (name, node.lineno))
                if isinstance(node, ast.Attribute):
                    self.assertNotEqual(node.attr, "sort", (name, node.lineno))

    def test_generators_have_names_of_their_own(self):
        functions, generators = [], []
        for name, tree in trees():
            for node in ast.walk(tree):
                if isinstance(node, ast.FunctionDef):
                    functions.append(node.name)
                    if any(isinstance(part, (ast.Yield, ast.YieldFrom)) for part in ast.walk(node)):
                        generators.append(node.name)
        self.assertEqual([name for name in generators if functions.count(name) > 1], [])

    def test_no_two_files_import_from_each_other(self):
        imported = {name: set() for name, _ in trees()}
        for name, tree in trees():
            for node in ast.walk(tree):
                if isinstance(node, ast.ImportFrom) and node.module.startswith("lookrows."):
                    imported[name].add(node.module.partition(".")[2])
        for _ in imported:
            for name in imported:
                imported[name] = imported[name].union(*[imported[other] for other in imported[name]])
        self.assertEqual([name for name in imported if name in imported[name]], [])

    def test_the_interface_stands_in_its_files(self):
        for name, functions in FUNCTIONS.items():
            module = import_module(f"lookrows.{name}")
            for function in functions:
                self.assertTrue(inspect.isfunction(getattr(module, function)))
                self.assertEqual(getattr(module, function).__module__, module.__name__)
        for name, classes in CLASSES.items():
            module = import_module(f"lookrows.{name}")
            for word, (methods, properties) in classes.items():
                made = getattr(module, word)
                self.assertEqual(made.__module__, module.__name__)
                for method in methods.split():
                    self.assertTrue(inspect.isfunction(vars(made)[method]), (word, method))
                for method in properties.split():
                    self.assertIsInstance(vars(made)[method], property, (word, method))
        self.assertIsInstance(vars(import_module("lookrows.books").Book)["read"], classmethod)
        self.assertIsNotNone(import_module("lookrows.desks").Desk.wanted.fset)
