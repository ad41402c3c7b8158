"""The package keeps to those rules of the language that a plain look at its files can tell."""

import ast
import builtins
import os
import re
import unittest

PACKAGE = os.path.join(os.path.dirname(os.path.dirname(os.path.abspath(__file__))), "ringingcalls")
# L8, without print and chr, which the package's modules may not use.
BUILTINS = set(
    "len range enumerate zip min max sum abs sorted reversed int str bool bytes list tuple dict set frozenset "
    "isinstance ord repr any all divmod Exception ValueError TypeError KeyError IndexError LookupError "
    "ZeroDivisionError ArithmeticError OverflowError RuntimeError NotImplementedError AttributeError "
    "StopIteration NotImplemented super property staticmethod classmethod".split()
)
# L17: these occur nowhere, not in comments or strings either.
BARRED = set(
    "type typing typing_extensions enum Enum IntEnum StrEnum Flag IntFlag Generic Protocol ABC ABCMeta "
    "namedtuple NamedTuple TypedDict TYPE_CHECKING abstractmethod".split()
)
BARRED_WITHIN = ("dataclass", "overload", "contextmanager")
# L6 and L7: statements and values that do not occur.
NOT_ALLOWED = (ast.Global, ast.AsyncFunctionDef, ast.Await, ast.AsyncFor, ast.AsyncWith, ast.Import, ast.Div)


def files():
    """The names of the package's files."""
    return sorted(name for name in os.listdir(PACKAGE) if name != "__pycache__")


def read(name):
    """The text of one of them."""
    with open(os.path.join(PACKAGE, name), encoding="utf-8", newline="") as file:
        return file.read()


class Language(unittest.TestCase):
    def nodes(self, *kinds):
        """Pairs (file, node) of all nodes of these kinds."""
        return [(name, node) for name in files() for node in ast.walk(ast.parse(read(name))) if isinstance(node, kinds)]

    def test_the_folder_has_plain_files_alone(self):
        for name in files():
            self.assertRegex(name, r"^[a-z0-9_]+\.py$")
        self.assertIn("__init__.py", files())

    def test_signs_lines_and_files(self):
        for name in files():
            text = read(name)
            self.assertRegex(text, r"^[ -~\n]*$", name)
            lines = text.splitlines()
            self.assertLessEqual(len(lines), 400, name)
            self.assertLessEqual(max(map(len, lines)), 120, name)

    def test_functions_are_short(self):
        for name, node in self.nodes(ast.FunctionDef):
            self.assertLessEqual(node.end_lineno - node.lineno + 1, 40, (name, node.name))

    def test_no_barred_words(self):
        for name in files():
            text = read(name)
            self.assertEqual(set(re.findall(r"\w+", text)) & BARRED, set(), name)
            self.assertEqual([word for word in BARRED_WITHIN if word in text], [], name)

    def test_no_barred_statements(self):
        self.assertEqual([(name, node.lineno) for name, node in self.nodes(*NOT_ALLOWED) if hasattr(node, "lineno")], [])
        self.assertEqual(self.nodes(ast.Div), [])

    def test_imports_are_of_the_package(self):
        for name, node in self.nodes(ast.ImportFrom):
            self.assertEqual(node.level, 0, name)
            self.assertTrue(node.module.startswith("ringingcalls."), (name, node.module))

    def test_imports_name_the_file_that_defines(self):
        for name, node in self.nodes(ast.ImportFrom):
            defined = self.bound(node.module.split(".")[1] + ".py")
            for alias in node.names:
                self.assertIn(alias.name, defined, name)

    def bound(self, name):
        """The names that a file defines itself at module level."""
        found = []
        for row in ast.parse(read(name)).body:
            if isinstance(row, (ast.FunctionDef, ast.ClassDef)):
                found.append(row.name)
            if isinstance(row, ast.Assign):
                found.extend(target.id for target in row.targets)
        return found

    def test_names_at_module_level_are_bound_once(self):
        for name in files():
            bound = self.bound(name)
            self.assertEqual(len(bound), len(set(bound)), name)

    def test_builtins_are_the_allowed_ones(self):
        for name, node in self.nodes(ast.Name):
            if hasattr(builtins, node.id):
                self.assertIn(node.id, BUILTINS, (name, node.lineno))
                self.assertIsInstance(node.ctx, ast.Load, (name, node.lineno))

    def test_names_are_plain(self):
        for name, node in self.nodes(ast.Name, ast.arg, ast.Attribute):
            word = getattr(node, "id", None) or getattr(node, "arg", None) or getattr(node, "attr", None)
            if word != "__init__":
                self.assertFalse(word.startswith("_"), (name, node.lineno))

    def test_is_stands_beside_none_true_and_false_alone(self):
        for name, node in self.nodes(ast.Compare):
            for sign, right in zip(node.ops, node.comparators):
                if isinstance(sign, (ast.Is, ast.IsNot)):
                    self.assertIsInstance(right, ast.Constant, (name, node.lineno))
                    self.assertIn(right.value, (None, True, False), (name, node.lineno))

    def test_no_number_with_a_point(self):
        for name, node in self.nodes(ast.Constant):
            self.assertNotIsInstance(node.value, (float, complex), (name, node.lineno))
