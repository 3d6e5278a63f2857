"""Some of the rules for the files of the package that a short test can see."""

import ast
import builtins
import inspect
import os
import re
import unittest

import holesleft

FOLDER = os.path.dirname(holesleft.__file__)
LIBRARY = {"heapq", "math", "itertools", "collections"}
METHODS = {"__init__", "__eq__", "__repr__", "__str__", "__len__"}
BUILTINS = set("""len range enumerate zip min max sum abs sorted reversed int str bool list tuple dict set isinstance
    ord repr any all divmod super property type ValueError KeyError ZeroDivisionError TypeError""".split())
BARRED_NAMES = {"register", "mro", "elements", "open", "input", "law", "id", "vars", "eval", "exec", "exit"}
BARRED_WORDS = r"\b(type|typing|enum|Enum|Flag|Generic|Protocol|ABC|namedtuple)\b|dataclass|overload|contextmanager"


def sources():
    for name in sorted(os.listdir(FOLDER)):
        if name != "__pycache__":
            with open(os.path.join(FOLDER, name), encoding="utf-8") as file:
                yield name, file.read()


def trees():
    for name, text in sources():
        yield name, ast.parse(text)


class LanguageTest(unittest.TestCase):
    def test_the_folder_contains_plain_python_files_only(self):
        for name, text in sources():
            self.assertRegex(name, r"^[a-z0-9_]+\.py$")
            self.assertRegex(text, r"^[ -~\n]*$")

    def test_sizes(self):
        for name, text in sources():
            self.assertLessEqual(len(text.splitlines()), 399, name)
            self.assertLessEqual(max(len(line) for line in text.splitlines()), 120, name)
        for name, tree in trees():
            for node in ast.walk(tree):
                if isinstance(node, ast.FunctionDef):
                    self.assertLessEqual(node.end_lineno - node.lineno + 1, 40, (name, node.name))

    def test_imports(self):
        for name, tree in trees():
            for node in ast.walk(tree):
                self.assertNotIsInstance(node, ast.Import, name)
                if isinstance(node, ast.ImportFrom):
                    self.assertEqual(node.level, 0, name)
                    if node.module not in LIBRARY:
                        self.assertRegex(node.module, r"^holesleft\.[a-z0-9_]+$")
                        module = __import__(node.module, fromlist=["x"])
                        for alias in node.names:
                            kept = getattr(module, alias.name)
                            if inspect.isfunction(kept) or inspect.isclass(kept):
                                self.assertEqual(kept.__module__, node.module)

    def test_names_and_words(self):
        for name, tree in trees():
            docstrings = {id(node.body[0].value) for node in ast.walk(tree)
                          if isinstance(node, (ast.Module, ast.ClassDef, ast.FunctionDef)) and ast.get_docstring(node)}
            for node in ast.walk(tree):
                for field in ["id", "attr", "arg", "name"]:
                    found = getattr(node, field, None)
                    self.assertNotIn(found, BARRED_NAMES, name)
                    if isinstance(found, str) and found.startswith("__"):
                        self.assertIn(found, METHODS, name)
                if isinstance(node, ast.Constant) and isinstance(node.value, str) and id(node) not in docstrings:
                    self.assertNotIn("%", node.value, name)
                    self.assertIsNone(re.search(BARRED_WORDS, node.value), name)

    def test_builtins(self):
        # Doctests leave a builtin called _ behind.
        known = set(dir(builtins)) - {"_"}
        for name, tree in trees():
            for node in ast.walk(tree):
                if isinstance(node, ast.Name) and node.id in known:
                    self.assertIsInstance(node.ctx, ast.Load, (name, node.id))
                    self.assertIn(node.id, BUILTINS, name)
                if isinstance(node, (ast.FunctionDef, ast.arg)):
                    self.assertNotIn(getattr(node, "name", None) or getattr(node, "arg", None), known, name)

    def test_no_name_hides_an_import_or_a_class(self):
        for name, tree in trees():
            kept = [alias.name for node in ast.walk(tree) if isinstance(node, ast.ImportFrom) for alias in node.names]
            kept += [node.name for node in ast.walk(tree) if isinstance(node, ast.ClassDef)]
            self.assertEqual(len(kept), len(set(kept)), name)
            for node in ast.walk(tree):
                if isinstance(node, ast.arg):
                    self.assertNotIn(node.arg, kept, name)
                if isinstance(node, ast.Name) and not isinstance(node.ctx, ast.Load):
                    self.assertNotIn(node.id, kept, name)

    def test_imports_are_used_and_make_no_ring(self):
        needs = {}
        for name, tree in trees():
            read = {node.id for node in ast.walk(tree) if isinstance(node, ast.Name)}
            needs[name[:-3]] = set()
            for node in ast.walk(tree):
                if isinstance(node, ast.ImportFrom):
                    self.assertLessEqual({alias.name for alias in node.names}, read, name)
                    needs[name[:-3]].add(node.module.split(".")[-1])
        while needs:
            free = [name for name, others in needs.items() if not others & set(needs)]
            self.assertTrue(free, needs)
            for name in free:
                del needs[name]

    def test_methods_and_attributes_have_different_names(self):
        for name, tree in trees():
            for node in ast.walk(tree):
                if isinstance(node, ast.ClassDef):
                    methods = [item.name for item in node.body if isinstance(item, ast.FunctionDef)]
                    self.assertEqual(len(methods), len(set(methods)), (name, node.name))
                    stored = {item.attr for item in ast.walk(node)
                              if isinstance(item, ast.Attribute) and isinstance(item.ctx, ast.Store)}
                    self.assertFalse(stored & set(methods), (name, node.name))

    def test_exponents_and_is(self):
        for name, tree in trees():
            for node in ast.walk(tree):
                if isinstance(node, ast.BinOp) and isinstance(node.op, ast.Pow):
                    self.assertIsInstance(node.right, ast.Constant, name)
                if isinstance(node, ast.Compare) and isinstance(node.ops[0], (ast.Is, ast.IsNot)):
                    if ast.unparse(node) != "type(self) is type(other)":
                        self.assertIn(getattr(node.comparators[0], "value", 0), (None, True, False), name)

    def test_type_stands_only_in_one_comparison(self):
        found = 0
        for _, tree in trees():
            for node in ast.walk(tree):
                if isinstance(node, ast.Compare) and ast.unparse(node) == "type(self) is type(other)":
                    found += 2
                if isinstance(node, ast.Name) and node.id == "type":
                    found -= 1
        self.assertEqual(found, 0)

    def test_properties_and_what_tells_of_an_object_change_nothing(self):
        changing = (ast.AugAssign, ast.Delete, ast.Yield, ast.Nonlocal)
        for name, tree in trees():
            for node in ast.walk(tree):
                if isinstance(node, ast.FunctionDef) and (node.decorator_list or node.name in METHODS - {"__init__"}):
                    self.assertIn([ast.unparse(item) for item in node.decorator_list], ([], ["property"]))
                    for part in ast.walk(node):
                        self.assertNotIsInstance(part, changing, name)
                        if isinstance(part, (ast.Attribute, ast.Subscript)):
                            self.assertIsInstance(part.ctx, ast.Load, name)

    def test_what_stands_beside_an_own_equality(self):
        for name, tree in trees():
            for node in ast.walk(tree):
                self.assertNotIsInstance(node, (ast.GeneratorExp, ast.Try, ast.Match), name)
                if isinstance(node, ast.Attribute):
                    self.assertNotEqual(node.attr, "sort", name)

    def test_forms(self):
        barred = (ast.AsyncFunctionDef, ast.Await, ast.AsyncFor, ast.AsyncWith, ast.Div)
        for name, tree in trees():
            for node in ast.walk(tree):
                self.assertNotIsInstance(node, barred, name)
                if isinstance(node, ast.Constant):
                    self.assertNotIsInstance(node.value, (float, complex), name)


if __name__ == "__main__":
    unittest.main()
