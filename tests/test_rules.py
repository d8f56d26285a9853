"""Some rules of the language in which the package is written: sizes, signs, imports, names, sets, what is never used."""

import ast
import builtins
import pathlib
import re
import unittest

PACKAGE = pathlib.Path(__file__).parent.parent / "foxborders"
LIBRARY = {"heapq": ("heappop", "heappush", "heapify"), "math": ("gcd", "lcm", "isqrt", "comb"),
           "itertools": ("product", "combinations", "permutations")}
BARRED = (ast.AsyncFunctionDef, ast.Await, ast.Global, ast.Nonlocal, ast.Import, ast.Div, ast.Starred, ast.Lambda,
          ast.Yield, ast.YieldFrom, ast.GeneratorExp, ast.With, ast.Match, ast.NamedExpr, ast.Pow)
BUILTINS = ("len range enumerate zip min max sum abs sorted reversed int str bool list tuple dict set isinstance ord repr "
            "any all divmod super ValueError").split()
METHODS = ("append clear copy count endswith extend find get index insert items join keys lower partition pop remove replace "
           "reverse setdefault split startswith strip update upper values bit_length __init__").split()
# An interpreter that shows values binds _ there.
TAKEN = [name for name in dir(builtins) if name != "_"]
WORDS = ("mro elements open input law version_info with_traceback add_note register type typing enum Enum Generic Protocol "
         "ABC namedtuple dataclass overload contextmanager").split()


def files():
    return sorted(path for path in PACKAGE.rglob("*") if path.is_file() and "__pycache__" not in path.parts)


def trees():
    return [(path, ast.parse(path.read_text(encoding="utf-8"))) for path in files()]


def bound_names(tree):
    """All names that a file gives to something, but for attributes and imports."""
    for node in ast.walk(tree):
        if isinstance(node, ast.Name) and not isinstance(node.ctx, ast.Load):
            yield node.id
        if isinstance(node, ast.arg):
            yield node.arg
        if isinstance(node, (ast.FunctionDef, ast.ClassDef)):
            yield node.name


def imported(tree):
    return [(node.module, alias) for node in ast.walk(tree) if isinstance(node, ast.ImportFrom) for alias in node.names]


def defined(tree):
    return [node.name for node in tree.body if isinstance(node, (ast.FunctionDef, ast.ClassDef))]


class Rules(unittest.TestCase):

    def test_files(self):
        self.assertIn(PACKAGE / "__init__.py", files())
        for path in files():
            self.assertRegex(path.name, r"^[a-z0-9_]+\.py$")

    def test_signs_and_sizes(self):
        for path in files():
            text = path.read_text(encoding="utf-8")
            lines = text.split("\n")
            self.assertLessEqual(len(lines), 399, path)
            for line in lines:
                self.assertLessEqual(len(line), 120, path)
                self.assertRegex(line, r"^[ -~]*$", path)

    def test_functions(self):
        for path, tree in trees():
            for node in ast.walk(tree):
                if isinstance(node, ast.FunctionDef):
                    self.assertLessEqual(node.end_lineno - node.lineno + 1, 40, (path, node.name))
                    self.assertTrue(node.name == "__init__" or ast.get_docstring(node), (path, node.name))
                    self.assertEqual(node.decorator_list, [], (path, node.name))

    def test_module_level(self):
        for path, tree in trees():
            for node in tree.body[1:]:
                self.assertIsInstance(node, (ast.ImportFrom, ast.FunctionDef, ast.ClassDef, ast.Assign), (path, node.lineno))
            names = [alias.name for _, alias in imported(tree)] + defined(tree)
            names += [node.targets[0].id for node in tree.body if isinstance(node, ast.Assign)]
            self.assertEqual(len(names), len(set(names)), path)

    def test_statements_and_values(self):
        for path, tree in trees():
            # A lambda stands as a key alone.
            keys = [key.value for call in ast.walk(tree) if isinstance(call, ast.Call) for key in call.keywords]
            for node in ast.walk(tree):
                self.assertFalse(isinstance(node, BARRED) and node not in keys, (path, node))
                self.assertFalse(isinstance(node, ast.Constant) and isinstance(node.value, (float, bytes)), path)

    def test_handlers(self):
        # Own errors alone are caught, around one statement; nothing is done at the end of all.
        own = {name for path, tree in trees() if path.stem == "errors" for name in defined(tree)}
        for path, tree in trees():
            for node in ast.walk(tree):
                if isinstance(node, ast.Try):
                    self.assertEqual([len(node.body), node.orelse, node.finalbody], [1, [], []], (path, node.lineno))
                    for handler in node.handlers:
                        caught = handler.type.elts if isinstance(handler.type, ast.Tuple) else [handler.type]
                        self.assertLessEqual({name.id for name in caught}, own, (path, node.lineno))
                        self.assertIsNone(handler.name, (path, node.lineno))

    def test_raised(self):
        own = {name for path, tree in trees() if path.stem == "errors" for name in defined(tree)}
        for path, tree in trees():
            for node in ast.walk(tree):
                if isinstance(node, ast.Raise):
                    self.assertIn(node.exc.func.id, own, (path, node.lineno))

    def test_names_of_methods_and_attributes(self):
        for path, tree in trees():
            for kind in ast.walk(tree):
                if isinstance(kind, ast.ClassDef):
                    methods = {node.name for node in kind.body if isinstance(node, ast.FunctionDef)}
                    stored = {node.attr for node in ast.walk(kind) if isinstance(node, ast.Attribute) and isinstance(node.ctx, ast.Store)}
                    self.assertFalse(methods & stored, path)
                    self.assertFalse((methods | stored) & set(dir(str) + dir(list) + dir(dict) + dir(set) + dir(int)) - {"__init__"}, path)

    def test_imports(self):
        known = {"foxborders." + path.stem: defined(tree) for path, tree in trees()}
        reached = {}
        for path, tree in trees():
            for module, alias in imported(tree):
                self.assertIsNone(alias.asname, path)
                self.assertIn(alias.name, LIBRARY.get(module) or known[module], path)
                reached.setdefault("foxborders." + path.stem, set()).add(module)
        # No two files import from one another, not by others either.
        for _ in reached:
            reached = {file: below.union(*[reached.get(module, set()) for module in below]) for file, below in reached.items()}
        for file, below in reached.items():
            self.assertNotIn(file, below)

    def test_names(self):
        for path, tree in trees():
            names = list(bound_names(tree))
            for name in names:
                self.assertTrue(name == "__init__" or re.fullmatch("_?[A-Za-z][A-Za-z0-9_]*|_", name), (path, name))
                self.assertNotIn(name, TAKEN, path)
            for _, alias in imported(tree):
                self.assertNotIn(alias.name, names, path)
            used = {node.id for node in ast.walk(tree) if isinstance(node, ast.Name) and isinstance(node.ctx, ast.Load)}
            self.assertNotIn("_", used, path)
            self.assertLessEqual(used & set(TAKEN), set(BUILTINS), path)
            attributes = {node.attr for node in ast.walk(tree) if isinstance(node, ast.Attribute)}
            self.assertFalse((used | set(names) | attributes) & set(WORDS), path)

    def test_methods(self):
        own = {node.name for _, tree in trees() for node in ast.walk(tree) if isinstance(node, ast.FunctionDef)}
        for path, tree in trees():
            for node in ast.walk(tree):
                if isinstance(node, ast.Call) and isinstance(node.func, ast.Attribute):
                    self.assertIn(node.func.attr, own | set(METHODS), (path, node.lineno))

    def test_sets(self):
        # A set stands in sorted(..), len(..) or a comparison alone.
        for path, tree in trees():
            above = {below: node for node in ast.walk(tree) for below in ast.iter_child_nodes(node)}
            for node in ast.walk(tree):
                made = isinstance(node, ast.Call) and isinstance(node.func, ast.Name) and node.func.id == "set"
                if made or isinstance(node, (ast.Set, ast.SetComp)):
                    around = above[node]
                    taken = isinstance(around, ast.Call) and around.func.id in ("sorted", "len")
                    self.assertTrue(taken or isinstance(around, ast.Compare), (path, node.lineno))

    def test_no_sign_of_percent_in_strings(self):
        for path, tree in trees():
            for node in ast.walk(tree):
                if isinstance(node, ast.Constant) and isinstance(node.value, str):
                    self.assertNotIn("%", node.value, (path, node.lineno))
