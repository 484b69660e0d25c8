"""The rules for the files of the package, as far as a short test can see them."""

import ast
import builtins
import inspect
import unittest
from pathlib import Path

from lookrows.plans import Plan

PACKAGE = Path(__file__).resolve().parent.parent / "lookrows"

BUILTINS = set(
    "len range enumerate zip min max sum abs sorted reversed int str bool bytes list tuple dict set isinstance ord"
    " repr any all divmod pow getattr hasattr setattr iter next map ValueError TypeError KeyError IndexError"
    " LookupError ZeroDivisionError StopIteration NotImplemented property staticmethod classmethod super".split()
)
SPECIAL = set(
    "init eq repr str len enter exit call iter lt le gt ge ne add sub mul floordiv mod pow and or xor lshift rshift"
    " radd rsub rmul rfloordiv rmod rand ror rxor rlshift rrshift iadd isub imul ifloordiv imod ipow iand ior ixor"
    " ilshift irshift neg pos invert abs bool contains getitem setitem".split()
)
LIBRARY = {"heapq", "math", "itertools", "collections"}
BARRED = (
    ast.Global, ast.AsyncFunctionDef, ast.AsyncFor, ast.AsyncWith, ast.Await, ast.Import, ast.Div, ast.MatMult,
)
WORDS = {"mro", "elements", "open", "input", "law", "type", "typing", "enum", "eval", "exec", "globals", "vars", "id"}

# The functions and classes of the interface, by their files, with the methods that each class defines itself.
FUNCTIONS = {"plans": ["joined"], "ways": ["way", "lean", "needed"]}
METHODS = [
    "__init__", "define", "__getitem__", "__setitem__", "steps", "files", "step_of", "files_of", "rules", "copy",
    "__contains__", "__len__", "__le__", "__or__", "__ior__",
]


def files():
    return sorted(PACKAGE.glob("*.py"))


def trees():
    for file in files():
        yield file.stem, ast.parse(file.read_text(encoding="utf-8"))


class LanguageTest(unittest.TestCase):
    def test_the_folder_holds_plain_files_only(self):
        for path in PACKAGE.iterdir():
            if path.name != "__pycache__":
                self.assertRegex(path.name, r"^(__init__|[a-z][a-z0-9_]*)\.py$")

    def test_characters_and_sizes(self):
        for file in files():
            text = file.read_text(encoding="utf-8")
            self.assertTrue(all(" " <= x <= "~" or x == "\n" for x in text), file.name)
            self.assertLessEqual(len(text.splitlines()), 399, file.name)
            self.assertLessEqual(max(map(len, text.splitlines())), 120, file.name)

    def test_functions_are_short(self):
        for name, tree in trees():
            for node in ast.walk(tree):
                if isinstance(node, ast.FunctionDef):
                    self.assertLessEqual(node.end_lineno - node.lineno + 1, 40, (name, node.name))

    def test_imports(self):
        for name, tree in trees():
            for node in ast.walk(tree):
                if isinstance(node, ast.ImportFrom):
                    self.assertIn(node, tree.body)
                    self.assertEqual(node.level, 0)
                    self.assertTrue(node.module in LIBRARY or node.module.startswith("lookrows."), (name, node.module))

    def test_statements_and_values(self):
        for name, tree in trees():
            for node in ast.walk(tree):
                self.assertNotIsInstance(node, BARRED, (name, getattr(node, "lineno", 0)))
                if isinstance(node, ast.Constant):
                    self.assertNotIsInstance(node.value, (float, complex), (name, node.lineno))

    def test_names(self):
        for name, tree in trees():
            for node in ast.walk(tree):
                word = getattr(node, "id", None) or getattr(node, "attr", None) or getattr(node, "arg", None)
                if isinstance(word, str):
                    self.assertNotIn(word, WORDS, (name, node.lineno))
                if isinstance(node, ast.Name) and hasattr(builtins, node.id):
                    self.assertIn(node.id, BUILTINS, (name, node.lineno))
                    self.assertIsInstance(node.ctx, ast.Load, (name, node.lineno))

    def test_classes(self):
        for name, tree in trees():
            for node in ast.walk(tree):
                if isinstance(node, ast.ClassDef):
                    methods = [part.name for part in node.body if isinstance(part, ast.FunctionDef)]
                    for method in methods:
                        if method.startswith("__"):
                            self.assertIn(method.strip("_"), SPECIAL, (name, node.name))
                    if "__getitem__" in methods:
                        self.assertIn("__iter__", methods, (name, node.name))

    def test_the_interface_stands_in_its_files(self):
        for name, functions in FUNCTIONS.items():
            module = __import__(f"lookrows.{name}", fromlist=[name])
            for function in functions:
                self.assertTrue(inspect.isfunction(getattr(module, function)))
                self.assertEqual(getattr(module, function).__module__, module.__name__)
        self.assertEqual(Plan.__module__, "lookrows.plans")
        for method in METHODS:
            self.assertIn(method, vars(Plan))
        self.assertIsInstance(vars(Plan)["steps"], property)
        self.assertIsInstance(vars(Plan)["files"], property)
