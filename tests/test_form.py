"""The form of the package's files, as far as a program can see it at little cost."""

import ast
import builtins
import os
import re
import unittest

TOP = os.path.join(os.path.dirname(os.path.abspath(__file__)), os.pardir)
PACKAGE = os.path.join(TOP, "seedtables")
LIBRARY = {
    "math": {"gcd", "lcm", "isqrt", "comb", "perm", "factorial"},
    "itertools": {
        "product", "combinations", "permutations", "chain", "accumulate", "pairwise", "islice", "zip_longest",
    },
    "heapq": {"heappush", "heappop", "heapify", "heapreplace", "heappushpop"},
    "collections": {"defaultdict", "deque"},
}
BARRED = (
    ast.AsyncFunctionDef, ast.AsyncFor, ast.AsyncWith, ast.Await, ast.Global, ast.Import, ast.Div, ast.MatMult,
)


def files():
    return sorted(name for name in os.listdir(PACKAGE) if name != "__pycache__")


def text(name):
    with open(os.path.join(PACKAGE, name), encoding="utf-8", newline="") as file:
        return file.read()


def trees():
    return [(name, ast.parse(text(name))) for name in files()]


class Form(unittest.TestCase):
    def test_plain_names_of_files(self):
        self.assertIn("__init__.py", files())
        for name in files():
            self.assertRegex(name, r"\A(__init__|[a-z][a-z0-9_]*)\.py\Z")

    def test_plain_characters_and_sizes(self):
        for name in files():
            lines = text(name).split("\n")
            self.assertEqual(lines[-1], "", name)
            self.assertLessEqual(len(lines) - 1, 399, name)
            for at, line in enumerate(lines, 1):
                self.assertRegex(line, r"\A[ -~]{0,120}\Z", (name, at))

    def test_functions_are_small(self):
        for name, tree in trees():
            for node in ast.walk(tree):
                if isinstance(node, (ast.FunctionDef, ast.Lambda)):
                    self.assertLessEqual(node.end_lineno - node.lineno + 1, 40, (name, node.lineno))

    def test_imports_from_the_package_and_few_others(self):
        for name, tree in trees():
            for node in ast.walk(tree):
                if isinstance(node, ast.ImportFrom):
                    words = {alias.name for alias in node.names}
                    self.assertEqual([alias.asname for alias in node.names], [None] * len(node.names))
                    if node.module not in LIBRARY:
                        self.assertTrue(re.match(r"seedtables\.[a-z]", node.module), (name, node.lineno))
                    else:
                        self.assertLessEqual(words, LIBRARY[node.module], (name, node.lineno))

    def test_each_import_is_used_and_keeps_its_meaning(self):
        for name, tree in trees():
            nodes = list(ast.walk(tree))
            imports = {alias.name for node in nodes if isinstance(node, ast.ImportFrom) for alias in node.names}
            used = {node.id for node in nodes if isinstance(node, ast.Name) and isinstance(node.ctx, ast.Load)}
            bound = {node.id for node in nodes if isinstance(node, ast.Name) and isinstance(node.ctx, ast.Store)}
            bound |= {node.arg for node in nodes if isinstance(node, ast.arg)}
            bound |= {node.name for node in nodes if isinstance(node, (ast.FunctionDef, ast.ClassDef))}
            self.assertLessEqual(imports, used, name)
            self.assertEqual(imports & bound, set(), name)
            self.assertEqual(bound & set(dir(builtins)), set(), name)

    def test_nothing_that_is_barred(self):
        for name, tree in trees():
            for node in ast.walk(tree):
                self.assertNotIsInstance(node, BARRED, (name, getattr(node, "lineno", None)))
                if isinstance(node, ast.Constant):
                    self.assertNotIsInstance(node.value, (float, complex), name)

    def test_each_file_function_and_class_tells_what_it_is(self):
        for name, tree in trees():
            for node in ast.walk(tree):
                if isinstance(node, (ast.Module, ast.ClassDef)):
                    self.assertTrue(ast.get_docstring(node), name)
                if isinstance(node, ast.FunctionDef) and node.name != "__init__":
                    self.assertTrue(ast.get_docstring(node), (name, node.name))


if __name__ == "__main__":
    unittest.main()
