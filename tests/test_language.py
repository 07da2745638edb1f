"""The rules on the language of the package, as far as the text of its files shows them."""

import ast
import builtins
import os
import re
import unittest

import loopbounds

FOLDER = os.path.dirname(os.path.abspath(loopbounds.__file__))
BUILTINS = set(
    "len range enumerate zip min max sum abs sorted reversed int str bool bytes list tuple dict set frozenset isinstance "
    "ord repr any all divmod pow getattr hasattr setattr iter next map type super property staticmethod classmethod "
    "Exception ValueError TypeError KeyError IndexError LookupError ZeroDivisionError ArithmeticError OverflowError "
    "RuntimeError NotImplementedError AttributeError StopIteration NotImplemented".split()
)
# Who runs examples may leave a _ among Python's names.
PYTHON_NAMES = set(dir(builtins)) - {"_"}
LIBRARY = {
    "math": {"gcd", "lcm", "isqrt", "comb", "perm", "factorial"},
    "itertools": {"product", "combinations", "permutations", "chain", "accumulate", "pairwise", "islice",
    "zip_longest"},
    "heapq": {"heappush", "heappop", "heapify", "heapreplace", "heappushpop"},
    "collections": {"defaultdict", "deque"},
    "__future__": {"annotations"},
}
DOUBLE = re.compile(
    "__(init|eq|repr|str|len|enter|exit|call|iter|lt|le|gt|ge|ne|neg|pos|invert|abs|bool|contains|getitem|setitem|slots|"
    "class|name|pow|[ri]?(add|sub|mul|floordiv|mod|and|or|xor|lshift|rshift))__"
)
BARRED = {"register", "mro", "elements", "open", "input", "law", "version_info", "with_traceback", "add_note"}
BARRED_NODES = (ast.AsyncFunctionDef, ast.AsyncFor, ast.AsyncWith, ast.Await, ast.Global, ast.Div, ast.MatMult)
MODULE_NODES = (ast.ImportFrom, ast.FunctionDef, ast.ClassDef, ast.Assign)


def package_files():
    return sorted(name for name in os.listdir(FOLDER) if name != "__pycache__")


def read(name):
    with open(os.path.join(FOLDER, name), encoding="utf-8") as file:
        return file.read()


def trees():
    for name in package_files():
        yield name, ast.parse(read(name))


def imports_of(tree):
    return [node for node in ast.walk(tree) if isinstance(node, ast.ImportFrom)]


class LanguageTest(unittest.TestCase):
    def test_files(self):
        for name in package_files():
            self.assertRegex(name, r"^(__init__|[a-z][a-z0-9_]*)\.py$")
            self.assertNotIn(name[:-3], PYTHON_NAMES)

    def test_characters_and_sizes(self):
        for name in package_files():
            text = read(name)
            self.assertRegex(text, r"\A[ -~\n]*\n\Z", name)
            lines = text.split("\n")
            self.assertLessEqual(len(lines), 400, name)
            self.assertLessEqual(max(len(line) for line in lines), 120, name)
        for name, tree in trees():
            for node in ast.walk(tree):
                if isinstance(node, ast.FunctionDef):
                    self.assertLessEqual(node.end_lineno - node.lineno + 1, 40, (name, node.name))

    def test_module_level(self):
        for name, tree in trees():
            for at, node in enumerate(tree.body):
                docstring = at == 0 and isinstance(node, ast.Expr) and isinstance(node.value, ast.Constant)
                self.assertTrue(docstring or isinstance(node, MODULE_NODES), (name, node.lineno))

    def test_imports(self):
        needs = {}
        for name, tree in trees():
            self.assertFalse([node for node in ast.walk(tree) if isinstance(node, ast.Import)], name)
            needs[name] = []
            for node in imports_of(tree):
                self.assertEqual(node.level, 0, (name, node.lineno))
                for alias in node.names:
                    self.assertIsNone(alias.asname, (name, node.lineno))
                    if node.module in LIBRARY:
                        self.assertIn(alias.name, LIBRARY[node.module], (name, node.lineno))
                    else:
                        self.check_defined(node.module, alias.name)
                        needs[name].append(node.module.partition(".")[2] + ".py")
        self.check_no_circle(needs)

    def check_defined(self, module, name):
        package, _, file = module.partition(".")
        self.assertEqual(package, "loopbounds")
        found = []
        for node in ast.parse(read(file + ".py")).body:
            if isinstance(node, (ast.FunctionDef, ast.ClassDef)):
                found.append(node.name)
            elif isinstance(node, ast.Assign):
                found += [target.id for target in node.targets]
        self.assertIn(name, found, module)

    def check_no_circle(self, needs):
        left = dict(needs)
        while left:
            free = [name for name in left if not any(other in left for other in left[name])]
            self.assertTrue(free, f"a circle of imports in {sorted(left)}")
            for name in free:
                del left[name]

    def test_names(self):
        for name, tree in trees():
            for node in ast.walk(tree):
                place = (name, getattr(node, "lineno", 0))
                for word in self.bound_names(node):
                    self.assertNotIn(word, PYTHON_NAMES, place)
                for word in self.all_names(node):
                    self.assertNotIn(word, BARRED, place)
                    self.assertTrue(not word.startswith("__") or DOUBLE.fullmatch(word), place)
                if isinstance(node, ast.Name) and node.id in PYTHON_NAMES:
                    self.assertIn(node.id, BUILTINS, place)

    def bound_names(self, node):
        """The names that are given a meaning, where methods may have those of builtins."""
        if isinstance(node, ast.Name) and isinstance(node.ctx, ast.Store):
            return [node.id]
        if isinstance(node, (ast.arg, ast.ClassDef)):
            return [node.arg if isinstance(node, ast.arg) else node.name]
        if isinstance(node, ast.Module):
            return [part.name for part in node.body if isinstance(part, ast.FunctionDef)]
        return []

    def all_names(self, node):
        fields = ("id", "attr", "arg", "name")
        return [getattr(node, field) for field in fields if isinstance(getattr(node, field, None), str)]

    def test_imports_are_not_hidden(self):
        for name, tree in trees():
            imported = {alias.name for node in imports_of(tree) for alias in node.names}
            classes = {node.name for node in tree.body if isinstance(node, ast.ClassDef)}
            for node in ast.walk(tree):
                for word in self.bound_names(node):
                    hidden = imported if isinstance(node, (ast.ClassDef, ast.Module)) else imported | classes
                    self.assertNotIn(word, hidden, (name, getattr(node, "lineno", 0)))

    def test_operators(self):
        for name, tree in trees():
            for node in ast.walk(tree):
                place = (name, getattr(node, "lineno", 0))
                if isinstance(node, ast.BinOp) and isinstance(node.op, ast.Pow):
                    self.assertIsInstance(node.right, ast.Constant, place)
                if isinstance(node, ast.AugAssign):
                    self.assertIsInstance(node.value, ast.Constant, place)
                if isinstance(node, ast.Compare) and isinstance(node.ops[0], (ast.Is, ast.IsNot)):
                    self.assertIsInstance(node.comparators[0], ast.Constant, place)
                    self.assertIn(repr(node.comparators[0].value), ("None", "True", "False"), place)

    def test_calls(self):
        for name, tree in trees():
            for node in ast.walk(tree):
                place = (name, getattr(node, "lineno", 0))
                if isinstance(node, ast.Call):
                    stars = [arg.value for arg in node.args if isinstance(arg, ast.Starred)]
                    stars += [more.value for more in node.keywords if more.arg is None]
                    for star in stars:
                        self.assertIsInstance(star, (ast.Name, ast.Attribute), place)
                    if isinstance(node.func, ast.Name) and node.func.id in ("sorted", "min", "max"):
                        keys = [more.value.id for more in node.keywords if more.arg == "key"]
                        self.assertIn(keys, (["str"], ["int"], ["len"]), place)
                if isinstance(node, ast.FunctionDef):
                    for wrapper in node.decorator_list:
                        self.assertIn(wrapper.id, ("property", "staticmethod", "classmethod"), place)
                if isinstance(node, ast.Raise):
                    self.assertTrue(node.exc is None or isinstance(node.exc, ast.Call), place)

    def test_generators(self):
        """A function that yields has its name alone, and is nothing that a value of Python's own has."""
        names, generators = [], []
        for _, tree in trees():
            for node in ast.walk(tree):
                if isinstance(node, ast.FunctionDef):
                    names.append(node.name)
                    if any(isinstance(part, (ast.Yield, ast.YieldFrom)) for part in ast.walk(node)):
                        generators.append(node.name)
        for word in generators:
            self.assertEqual(names.count(word), 1, word)
            self.assertFalse(any(hasattr(kind, word) for kind in (str, bytes, int, list, tuple, dict, set)), word)

    def test_syntax(self):
        for name, tree in trees():
            for node in ast.walk(tree):
                place = (name, getattr(node, "lineno", 0))
                self.assertNotIsInstance(node, BARRED_NODES, place)
                if isinstance(node, ast.Constant):
                    self.assertNotIsInstance(node.value, (float, complex), place)
                    if isinstance(node.value, str):
                        self.assertNotIn("%", node.value, place)
                if isinstance(node, ast.Call) and isinstance(node.func, ast.Name):
                    if node.func.id in ("any", "all", "min", "max", "sum", "sorted"):
                        self.assertFalse([arg for arg in node.args if isinstance(arg, ast.GeneratorExp)], place)
                if isinstance(node, ast.Name) and node.id == "NotImplemented":
                    self.assertIn(f"return {node.id}", read(name).split("\n")[node.lineno - 1])
