"""The form of the package's files, as far as a program can see it at little cost."""

import ast
import builtins
import os
import re
import unittest

TOP = os.path.join(os.path.dirname(os.path.abspath(__file__)), os.pardir)
PACKAGE = os.path.join(TOP, "seedtables")
LIBRARY = {
    "math": {"gcd", "lcm", "isqrt", "comb", "perm", "factorial"},
    "itertools": {
        "product", "combinations", "permutations", "chain", "accumulate", "pairwise", "islice", "zip_longest",
    },
    "heapq": {"heappush", "heappop", "heapify", "heapreplace", "heappushpop"},
    "collections": {"defaultdict", "deque"},
}
BARRED = (
    ast.AsyncFunctionDef, ast.AsyncFor, ast.AsyncWith, ast.Await, ast.Global, ast.Import, ast.Div, ast.MatMult,
    ast.Pow, ast.Set, ast.SetComp,
)
# Of what the rules let these are all that this package needs.
BUILTINS = {
    "abs", "all", "bool", "enumerate", "int", "isinstance", "len", "list", "max", "min", "range", "set",
    "sorted", "str", "sum", "super", "tuple", "zip", "ValueError",
}
METHODS = {"append", "count", "get", "index", "items", "setdefault", "values"}
AT_ONCE = {"combinations", "enumerate", "range", "zip"}


def files():
    return sorted(name for name in os.listdir(PACKAGE) if name != "__pycache__")


def text(name):
    with open(os.path.join(PACKAGE, name), encoding="utf-8", newline="") as file:
        return file.read()


def trees():
    return [(name, ast.parse(text(name))) for name in files()]


def is_call_of(node, names):
    return isinstance(node, ast.Call) and isinstance(node.func, ast.Name) and node.func.id in names


class Form(unittest.TestCase):
    def test_plain_names_of_files(self):
        self.assertIn("__init__.py", files())
        for name in files():
            self.assertRegex(name, r"\A(__init__|[a-z][a-z0-9_]*)\.py\Z")

    def test_plain_characters_and_sizes(self):
        for name in files():
            lines = text(name).split("\n")
            self.assertEqual(lines[-1], "", name)
            self.assertLessEqual(len(lines) - 1, 399, name)
            for at, line in enumerate(lines, 1):
                self.assertRegex(line, r"\A[ -~]{0,120}\Z", (name, at))

    def test_functions_are_small(self):
        for name, tree in trees():
            for node in ast.walk(tree):
                if isinstance(node, (ast.FunctionDef, ast.Lambda)):
                    self.assertLessEqual(node.end_lineno - node.lineno + 1, 40, (name, node.lineno))

    def test_imports_from_the_package_and_few_others(self):
        for name, tree in trees():
            for node in ast.walk(tree):
                if isinstance(node, ast.ImportFrom):
                    words = {alias.name for alias in node.names}
                    self.assertEqual([alias.asname for alias in node.names], [None] * len(node.names))
                    if node.module not in LIBRARY:
                        self.assertTrue(re.match(r"seedtables\.[a-z]", node.module), (name, node.lineno))
                    else:
                        self.assertLessEqual(words, LIBRARY[node.module], (name, node.lineno))

    def test_each_import_is_used_and_keeps_its_meaning(self):
        for name, tree in trees():
            nodes = list(ast.walk(tree))
            imports = {alias.name for node in nodes if isinstance(node, ast.ImportFrom) for alias in node.names}
            used = {node.id for node in nodes if isinstance(node, ast.Name) and isinstance(node.ctx, ast.Load)}
            bound = {node.id for node in nodes if isinstance(node, ast.Name) and isinstance(node.ctx, ast.Store)}
            bound |= {node.arg for node in nodes if isinstance(node, ast.arg)}
            bound |= {node.name for node in nodes if isinstance(node, (ast.FunctionDef, ast.ClassDef))}
            self.assertLessEqual(imports, used, name)
            self.assertEqual(imports & bound, set(), name)
            self.assertEqual(bound & set(dir(builtins)), set(), name)

    def test_nothing_that_is_barred(self):
        for name, tree in trees():
            for node in ast.walk(tree):
                self.assertNotIsInstance(node, BARRED, (name, getattr(node, "lineno", None)))
                if isinstance(node, ast.Constant):
                    self.assertNotIsInstance(node.value, (float, complex), name)

    def test_few_builtins_and_methods_each_called_on_the_spot(self):
        own = {node.name for _, tree in trees() for node in ast.walk(tree) if isinstance(node, ast.FunctionDef)}
        for name, tree in trees():
            called = {id(node.func) for node in ast.walk(tree) if isinstance(node, ast.Call)}
            named = {id(base) for node in ast.walk(tree) if isinstance(node, ast.ClassDef) for base in node.bases}
            named |= {id(node.args[1]) for node in ast.walk(tree) if is_call_of(node, {"isinstance"})}
            for node in ast.walk(tree):
                if isinstance(node, ast.Name) and isinstance(node.ctx, ast.Load) and node.id in dir(builtins):
                    self.assertIn(node.id, BUILTINS, (name, node.lineno))
                    self.assertIn(id(node), called | named, (name, node.lineno))
                if isinstance(node, ast.Attribute) and id(node) in called:
                    self.assertIn(node.attr, METHODS | own, (name, node.lineno))

    def test_ranges_and_their_like_are_iterated_at_once(self):
        for name, tree in trees():
            once = {id(node.iter) for node in ast.walk(tree) if isinstance(node, (ast.For, ast.comprehension))}
            for node in ast.walk(tree):
                if is_call_of(node, {"list", "tuple", "combinations"}):
                    once |= {id(part) for part in node.args}
            for node in ast.walk(tree):
                if is_call_of(node, AT_ONCE):
                    self.assertIn(id(node), once, (name, node.lineno))
                if isinstance(node, ast.GeneratorExp):
                    self.assertFalse(any(is_call_of(part.iter, {"combinations"}) for part in node.generators), name)

    def test_sets_stand_in_len_alone(self):
        for name, tree in trees():
            inside = {id(node.args[0]) for node in ast.walk(tree) if is_call_of(node, {"len"})}
            for node in ast.walk(tree):
                if is_call_of(node, {"set"}):
                    self.assertIn(id(node), inside, (name, node.lineno))

    def test_no_two_files_import_from_each_other(self):
        needs = {
            name[:-3]: {
                node.module.partition(".")[2] for node in tree.body
                if isinstance(node, ast.ImportFrom) and node.module not in LIBRARY
            }
            for name, tree in trees()
        }
        done = set()
        while len(done) < len(needs):
            ready = {name for name in needs if name not in done and needs[name] <= done}
            self.assertNotEqual(ready, set(), sorted(set(needs) - done))
            done |= ready

    def test_each_name_is_imported_from_the_file_that_defines_it(self):
        defined = {}
        for name, tree in trees():
            nodes = [node for node in tree.body if isinstance(node, (ast.FunctionDef, ast.ClassDef))]
            values = [node.targets[0].id for node in tree.body if isinstance(node, ast.Assign)]
            defined["seedtables." + name[:-3]] = [node.name for node in nodes] + values
        for name, tree in trees():
            found = list(defined["seedtables." + name[:-3]])
            for node in tree.body:
                if isinstance(node, ast.ImportFrom):
                    found += [alias.name for alias in node.names]
                    if node.module not in LIBRARY:
                        for alias in node.names:
                            self.assertIn(alias.name, defined[node.module], (name, node.lineno))
            self.assertEqual(len(found), len(set(found)), name)

    def test_each_file_function_and_class_tells_what_it_is(self):
        for name, tree in trees():
            for node in ast.walk(tree):
                if isinstance(node, (ast.Module, ast.ClassDef)):
                    self.assertTrue(ast.get_docstring(node), name)
                if isinstance(node, ast.FunctionDef) and node.name != "__init__":
                    self.assertTrue(ast.get_docstring(node), (name, node.name))


if __name__ == "__main__":
    unittest.main()
