"""The package's files keep to the part of Python that LANGUAGE.md tells; what of its rules a walk of the tree can see."""

import ast
import builtins
import re
import unittest
from pathlib import Path

PACKAGE = Path(__file__).resolve().parent.parent / "houseturns"

OWN_NAMES = set(
    "len range enumerate zip min max sum abs sorted reversed int str bool list tuple dict set frozenset isinstance ord "
    "repr any all divmod Exception ValueError TypeError KeyError IndexError LookupError ZeroDivisionError "
    "ArithmeticError OverflowError RuntimeError NotImplementedError AttributeError StopIteration".split())
METHODS = set(
    "append clear copy count endswith extend find get index insert isalnum isalpha isdigit islower isspace isupper "
    "items join keys ljust lower lstrip partition pop remove replace reverse rfind rjust rpartition rsplit rstrip "
    "setdefault split splitlines startswith strip update upper values zfill bit_length".split())
UNUSED = set("register mro elements open input version_info with_traceback add_note".split())
WORDS = ("type typing typing_extensions enum Enum IntEnum StrEnum Flag IntFlag Generic Protocol ABC ABCMeta namedtuple "
         "NamedTuple TypedDict TYPE_CHECKING abstractmethod").split()
STATEMENTS = (ast.Assign, ast.AugAssign, ast.If, ast.While, ast.For, ast.Return, ast.Break, ast.Continue, ast.Pass,
              ast.Raise, ast.Try, ast.Expr, ast.FunctionDef, ast.ClassDef, ast.ImportFrom)
EXPRESSIONS = (ast.Constant, ast.List, ast.Tuple, ast.Dict, ast.BinOp, ast.UnaryOp, ast.BoolOp, ast.Compare, ast.IfExp,
               ast.Call, ast.Attribute, ast.Subscript, ast.Slice, ast.ListComp, ast.JoinedStr, ast.FormattedValue,
               ast.Name, ast.Lambda)
WALKED_AT_ONCE = ("zip", "enumerate", "reversed", "range")
DICT_WALKS = ("items", "keys", "values")


def files():
    return sorted(PACKAGE.glob("*.py"))


def trees():
    return [(path.name, ast.parse(path.read_text())) for path in files()]


def nodes(kind):
    return [(name, node) for name, tree in trees() for node in ast.walk(tree) if isinstance(node, kind)]


def is_plain(node):
    if isinstance(node, ast.UnaryOp):
        return isinstance(node.op, ast.USub) and is_plain(node.operand)
    if isinstance(node, (ast.List, ast.Tuple)):
        return all(is_plain(part) for part in node.elts)
    if isinstance(node, ast.Dict):
        return all(is_plain(part) for part in node.keys + node.values)
    return isinstance(node, ast.Constant) and (node.value is None or isinstance(node.value, (bool, int, str)))


def bound_names(tree):
    for node in ast.walk(tree):
        if isinstance(node, (ast.FunctionDef, ast.ClassDef)):
            yield node.name
        elif isinstance(node, ast.arg):
            yield node.arg
        elif isinstance(node, ast.Name) and isinstance(node.ctx, ast.Store):
            yield node.id


class FilesTest(unittest.TestCase):
    def test_names_and_signs(self):
        for path in PACKAGE.iterdir():
            if path.name == "__pycache__":
                continue
            self.assertRegex(path.name, r"^(__init__|[a-z][a-z0-9_]*)\.py$")
            self.assertNotIn(path.stem, dir(builtins))
            self.assertFalse(path.stem.startswith("test"))
            self.assertLessEqual(set(path.read_bytes()), {10, *range(32, 127)}, path.name)
        self.assertTrue((PACKAGE / "__init__.py").exists())

    def test_sizes(self):
        for path in files():
            lines = path.read_text().split("\n")
            self.assertLessEqual(len(lines), 400, path.name)
            self.assertLessEqual(max(len(line) for line in lines), 120, path.name)
        for name, node in nodes(ast.FunctionDef):
            self.assertLessEqual(node.end_lineno - node.lineno + 1, 40, (name, node.name))

    def test_words_that_stand_nowhere(self):
        for path in files():
            text = path.read_text()
            for word in WORDS:
                self.assertIsNone(re.search(rf"\b{word}\b", text), (path.name, word))
            for word in ("dataclass", "overload", "contextmanager"):
                self.assertNotIn(word, text, path.name)


class ImportsTest(unittest.TestCase):
    def test_only_the_packages_own_from_the_file_that_defines_them(self):
        tops = {name: tree for name, tree in trees()}
        self.assertEqual(nodes(ast.Import), [])
        for name, node in nodes(ast.ImportFrom):
            self.assertEqual(node.col_offset, 0)
            self.assertEqual(node.level, 0)
            package, _, module = node.module.partition(".")
            self.assertEqual(package, "houseturns")
            defined = set()
            for top in tops[module + ".py"].body:
                if isinstance(top, (ast.FunctionDef, ast.ClassDef)):
                    defined.add(top.name)
                elif isinstance(top, ast.Assign):
                    defined.add(top.targets[0].id)
            for alias in node.names:
                self.assertIsNone(alias.asname)
                self.assertIn(alias.name, defined)

    def test_all_imports_are_used(self):
        for name, tree in trees():
            used = {node.id for node in ast.walk(tree) if isinstance(node, ast.Name)}
            for node in tree.body:
                if isinstance(node, ast.ImportFrom):
                    for alias in node.names:
                        self.assertIn(alias.name, used, name)

    def test_no_two_files_draw_from_one_another(self):
        draws = {}
        for name, node in nodes(ast.ImportFrom):
            draws.setdefault(name, set()).add(node.module.partition(".")[2] + ".py")
        left = {name for name, _ in trees()}
        while left:
            free = {name for name in left if not draws.get(name, set()) & left}
            self.assertTrue(free, left)
            left -= free


class TreeTest(unittest.TestCase):
    def test_the_top_of_a_module(self):
        for name, tree in trees():
            self.assertIsNotNone(ast.get_docstring(tree), name)
            bound = []
            for node in tree.body[1:]:
                self.assertIsInstance(node, (ast.ImportFrom, ast.FunctionDef, ast.ClassDef, ast.Assign), name)
                if isinstance(node, ast.Assign):
                    self.assertTrue(is_plain(node.value), (name, node.lineno))
                    bound.append(node.targets[0].id)
                elif isinstance(node, ast.ImportFrom):
                    bound.extend(alias.name for alias in node.names)
                else:
                    bound.append(node.name)
            self.assertEqual(len(bound), len(set(bound)), name)

    def test_statements(self):
        for name, node in nodes(ast.stmt):
            place = (name, node.lineno)
            self.assertIsInstance(node, STATEMENTS, place)
            if isinstance(node, (ast.For, ast.While)):
                self.assertEqual(node.orelse, [], place)
            if isinstance(node, ast.Assign):
                self.assertEqual(len(node.targets), 1, place)
            if isinstance(node, ast.Expr) and node.lineno > 1:
                self.assertIsInstance(node.value, ast.Call, place)
            if isinstance(node, ast.Try):
                self.assertEqual(node.finalbody, [], place)

    def test_expressions(self):
        for name, node in nodes(ast.expr):
            place = (name, node.lineno)
            self.assertIsInstance(node, EXPRESSIONS, place)
            if isinstance(node, ast.Constant):
                self.assertIn(type(node.value), (int, str, bool, type(None)), place)
            if isinstance(node, ast.BinOp):
                self.assertNotIsInstance(node.op, (ast.Div, ast.MatMult), place)
            if isinstance(node, ast.ListComp):
                self.assertEqual(len(node.generators), 1, place)
                self.assertLessEqual(len(node.generators[0].ifs), 1, place)
            if isinstance(node, ast.Compare) and any(isinstance(op, (ast.Is, ast.IsNot)) for op in node.ops):
                self.assertTrue(all(isinstance(side, ast.Constant) for side in node.comparators), place)

    def test_functions_and_classes(self):
        for name, node in nodes(ast.FunctionDef):
            args = node.args
            self.assertEqual([args.vararg, args.kwarg, args.kwonlyargs, args.posonlyargs], [None, None, [], []])
            self.assertEqual([node.decorator_list, node.returns], [[], None], (name, node.name))
            self.assertTrue(all(is_plain(value) for value in args.defaults), (name, node.name))
        for name, node in nodes(ast.ClassDef):
            self.assertEqual([node.decorator_list, node.keywords], [[], []], (name, node.name))
            self.assertLessEqual(len(node.bases), 1)
            for part in node.body:
                self.assertIsInstance(part, ast.FunctionDef, (name, node.name))


class NamesTest(unittest.TestCase):
    def test_plain_names_that_hide_nothing(self):
        for name, tree in trees():
            taken = {node.name for node in tree.body if isinstance(node, ast.ClassDef)}
            taken |= {alias.name for node in tree.body if isinstance(node, ast.ImportFrom) for alias in node.names}
            for node in ast.walk(tree):
                if isinstance(node, ast.arg):
                    self.assertNotIn(node.arg, taken, name)
                elif isinstance(node, ast.Name) and isinstance(node.ctx, ast.Store):
                    self.assertNotIn(node.id, taken, name)
            for bound in bound_names(tree):
                if bound == "__init__":
                    continue
                self.assertRegex(bound, r"^[A-Za-z][A-Za-z0-9_]*$", name)
                self.assertNotIn(bound, dir(builtins), name)
                self.assertNotIn(bound, UNUSED, name)

    def test_only_the_allowed_names_of_pythons_own(self):
        for name, node in nodes(ast.Name):
            if node.id in dir(builtins):
                self.assertIn(node.id, OWN_NAMES, (name, node.lineno))

    def test_methods_and_values(self):
        own_methods = {part.name for _, node in nodes(ast.ClassDef) for part in node.body}
        values = {node.attr for _, node in nodes(ast.Attribute) if isinstance(node.ctx, ast.Store)}
        self.assertEqual(own_methods & values, set())
        python_own = {attr for sort in (str, int, list, dict, set, bytes) for attr in dir(sort)}
        self.assertLessEqual(values & python_own, set("count index title find get join lower upper split strip copy add"
                                                      .split()))
        for name, node in nodes(ast.Attribute):
            self.assertNotIn(node.attr, UNUSED, (name, node.lineno))
        for name, node in nodes(ast.Call):
            if isinstance(node.func, ast.Attribute):
                self.assertIn(node.func.attr, own_methods | METHODS, (name, node.lineno))

    def test_walks_stand_where_they_are_walked(self):
        for name, tree in trees():
            walked = set()
            for node in ast.walk(tree):
                if isinstance(node, (ast.For, ast.comprehension)):
                    walked.add(node.iter)
                elif isinstance(node, ast.Call) and isinstance(node.func, ast.Name) and node.args:
                    if node.func.id in ("list", "tuple", "dict", "sorted", "sum", "any", "all", "enumerate", "zip"):
                        walked.add(node.args[0])
            for node in ast.walk(tree):
                if not isinstance(node, ast.Call):
                    continue
                if isinstance(node.func, ast.Name) and node.func.id in WALKED_AT_ONCE:
                    self.assertIn(node, walked, (name, node.lineno))
                elif isinstance(node.func, ast.Attribute) and node.func.attr in DICT_WALKS:
                    self.assertIn(node, walked, (name, node.lineno))
