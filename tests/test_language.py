"""Some of the rules for the files of the package that a short test can see."""

import ast
import inspect
import os
import re
import unittest

import holesleft

FOLDER = os.path.dirname(holesleft.__file__)
LIBRARY = {"heapq", "math", "itertools", "collections"}
METHODS = {"__init__", "__eq__", "__repr__", "__str__", "__len__"}
BUILTINS = set("""len range enumerate zip min max sum abs sorted reversed int str bool list tuple dict set isinstance
    ord repr any all divmod super property ValueError KeyError ZeroDivisionError TypeError""".split())
BARRED_NAMES = {"register", "mro", "elements", "open", "input", "law", "type", "id", "vars", "eval", "exec", "exit"}
BARRED_WORDS = r"\b(type|typing|enum|Enum|Flag|Generic|Protocol|ABC|namedtuple)\b|dataclass|overload|contextmanager"


def sources():
    for name in sorted(os.listdir(FOLDER)):
        if name != "__pycache__":
            with open(os.path.join(FOLDER, name), encoding="utf-8") as file:
                yield name, file.read()


def trees():
    for name, text in sources():
        yield name, ast.parse(text)


class LanguageTest(unittest.TestCase):
    def test_the_folder_contains_plain_python_files_only(self):
        for name, text in sources():
            self.assertRegex(name, r"^[a-z0-9_]+\.py$")
            self.assertRegex(text, r"^[ -~\n]*$")

    def test_sizes(self):
        for name, text in sources():
            self.assertLessEqual(len(text.splitlines()), 399, name)
            self.assertLessEqual(max(len(line) for line in text.splitlines()), 120, name)
        for name, tree in trees():
            for node in ast.walk(tree):
                if isinstance(node, ast.FunctionDef):
                    self.assertLessEqual(node.end_lineno - node.lineno + 1, 40, (name, node.name))

    def test_imports(self):
        for name, tree in trees():
            for node in ast.walk(tree):
                self.assertNotIsInstance(node, ast.Import, name)
                if isinstance(node, ast.ImportFrom):
                    self.assertEqual(node.level, 0, name)
                    if node.module not in LIBRARY:
                        self.assertRegex(node.module, r"^holesleft\.[a-z0-9_]+$")
                        module = __import__(node.module, fromlist=["x"])
                        for alias in node.names:
                            kept = getattr(module, alias.name)
                            if inspect.isfunction(kept) or inspect.isclass(kept):
                                self.assertEqual(kept.__module__, node.module)

    def test_names_and_words(self):
        for name, tree in trees():
            docstrings = {id(node.body[0].value) for node in ast.walk(tree)
                          if isinstance(node, (ast.Module, ast.ClassDef, ast.FunctionDef)) and ast.get_docstring(node)}
            for node in ast.walk(tree):
                for field in ["id", "attr", "arg", "name"]:
                    found = getattr(node, field, None)
                    self.assertNotIn(found, BARRED_NAMES, name)
                    if isinstance(found, str) and found.startswith("__"):
                        self.assertIn(found, METHODS, name)
                if isinstance(node, ast.Constant) and isinstance(node.value, str) and id(node) not in docstrings:
                    self.assertNotIn("%", node.value, name)
                    self.assertIsNone(re.search(BARRED_WORDS, node.value), name)

    def test_builtins(self):
        known = set(dir(__builtins__) if not isinstance(__builtins__, dict) else __builtins__)
        for name, tree in trees():
            for node in ast.walk(tree):
                if isinstance(node, ast.Name) and node.id in known:
                    self.assertIsInstance(node.ctx, ast.Load, (name, node.id))
                    self.assertIn(node.id, BUILTINS, name)
                if isinstance(node, (ast.FunctionDef, ast.arg)):
                    self.assertNotIn(getattr(node, "name", None) or getattr(node, "arg", None), known, name)

    def test_forms(self):
        barred = (ast.AsyncFunctionDef, ast.Await, ast.AsyncFor, ast.AsyncWith, ast.Div)
        for name, tree in trees():
            for node in ast.walk(tree):
                self.assertNotIsInstance(node, barred, name)
                if isinstance(node, ast.Constant):
                    self.assertNotIsInstance(node.value, (float, complex), name)


if __name__ == "__main__":
    unittest.main()
