"""The package keeps to those rules of the language that a plain look at its files can tell."""

import ast
import builtins
import os
import re
import unittest

PACKAGE = os.path.join(os.path.dirname(os.path.dirname(os.path.abspath(__file__))), "ringingcalls")
# L8, without print and chr, which the package's modules may not use.
BUILTINS = set(
    "len range enumerate zip min max sum abs sorted reversed int str bool bytes list tuple dict set frozenset "
    "isinstance ord repr any all divmod Exception ValueError TypeError KeyError IndexError LookupError "
    "ZeroDivisionError ArithmeticError OverflowError RuntimeError NotImplementedError AttributeError "
    "StopIteration NotImplemented super property staticmethod classmethod".split()
)
# L17: these occur nowhere, not in comments or strings either.
BARRED = set(
    "type typing typing_extensions enum Enum IntEnum StrEnum Flag IntFlag Generic Protocol ABC ABCMeta "
    "namedtuple NamedTuple TypedDict TYPE_CHECKING abstractmethod".split()
)
BARRED_WITHIN = ("dataclass", "overload", "contextmanager")
# L6 and L7: statements and values that do not occur.
NOT_ALLOWED = (ast.Global, ast.AsyncFunctionDef, ast.Await, ast.AsyncFor, ast.AsyncWith, ast.Import, ast.Div)
# L5: of these the package has but some.
DOUBLE = ("__init__", "__eq__", "__len__")
# L25, the first list.
METHODS = set(
    "append clear copy count endswith extend find get index insert isalnum isalpha isdigit islower isspace isupper "
    "items join keys ljust lower lstrip partition pop remove replace reverse rfind rjust rpartition rsplit rstrip "
    "setdefault split splitlines startswith strip update upper values zfill bit_length".split()
)


def files():
    """The names of the package's files."""
    return sorted(name for name in os.listdir(PACKAGE) if name != "__pycache__")


def read(name):
    """The text of one of them."""
    with open(os.path.join(PACKAGE, name), encoding="utf-8", newline="") as file:
        return file.read()


class Nodes:
    def nodes(self, *kinds):
        """Pairs (file, node) of all nodes of these kinds."""
        return [(name, node) for name in files() for node in ast.walk(ast.parse(read(name))) if isinstance(node, kinds)]


class Language(Nodes, unittest.TestCase):
    def test_the_folder_has_plain_files_alone(self):
        for name in files():
            self.assertRegex(name, r"^[a-z0-9_]+\.py$")
        self.assertIn("__init__.py", files())

    def test_signs_lines_and_files(self):
        for name in files():
            text = read(name)
            self.assertRegex(text, r"^[ -~\n]*$", name)
            lines = text.splitlines()
            self.assertLessEqual(len(lines), 400, name)
            self.assertLessEqual(max(map(len, lines)), 120, name)

    def test_functions_are_short(self):
        for name, node in self.nodes(ast.FunctionDef):
            self.assertLessEqual(node.end_lineno - node.lineno + 1, 40, (name, node.name))

    def test_no_barred_words(self):
        for name in files():
            text = read(name)
            self.assertEqual(set(re.findall(r"\w+", text)) & BARRED, set(), name)
            self.assertEqual([word for word in BARRED_WITHIN if word in text], [], name)

    def test_no_barred_statements(self):
        self.assertEqual([(name, node.lineno) for name, node in self.nodes(*NOT_ALLOWED) if hasattr(node, "lineno")], [])
        self.assertEqual(self.nodes(ast.Div), [])

    def test_imports_are_of_the_package(self):
        for name, node in self.nodes(ast.ImportFrom):
            self.assertEqual(node.level, 0, name)
            self.assertTrue(node.module.startswith("ringingcalls."), (name, node.module))

    def test_imports_name_the_file_that_defines(self):
        for name, node in self.nodes(ast.ImportFrom):
            defined = self.bound(node.module.split(".")[1] + ".py")
            for alias in node.names:
                self.assertIn(alias.name, defined, name)

    def bound(self, name):
        """The names that a file defines itself at module level."""
        found = []
        for row in ast.parse(read(name)).body:
            if isinstance(row, (ast.FunctionDef, ast.ClassDef)):
                found.append(row.name)
            if isinstance(row, ast.Assign):
                found.extend(target.id for target in row.targets)
        return found

    def test_names_at_module_level_are_bound_once(self):
        for name in files():
            bound = self.bound(name)
            self.assertEqual(len(bound), len(set(bound)), name)

    def test_builtins_are_the_allowed_ones(self):
        for name, node in self.nodes(ast.Name):
            if hasattr(builtins, node.id):
                self.assertIn(node.id, BUILTINS, (name, node.lineno))
                self.assertIsInstance(node.ctx, ast.Load, (name, node.lineno))

    def test_names_are_plain(self):
        for name, node in self.nodes(ast.Name, ast.arg, ast.Attribute):
            word = getattr(node, "id", None) or getattr(node, "arg", None) or getattr(node, "attr", None)
            if word != "__init__":
                self.assertFalse(word.startswith("_"), (name, node.lineno))

    def test_is_stands_beside_none_true_and_false_alone(self):
        for name, node in self.nodes(ast.Compare):
            for sign, right in zip(node.ops, node.comparators):
                if isinstance(sign, (ast.Is, ast.IsNot)):
                    self.assertIsInstance(right, ast.Constant, (name, node.lineno))
                    self.assertIn(right.value, (None, True, False), (name, node.lineno))

    def test_no_number_with_a_point(self):
        for name, node in self.nodes(ast.Constant):
            self.assertNotIsInstance(node.value, (float, complex), (name, node.lineno))


class Classes(Nodes, unittest.TestCase):
    def classes(self):
        """Pairs (file, class) of all classes of the package."""
        return self.nodes(ast.ClassDef)

    def own_methods(self):
        """The names of all methods of the package."""
        return {row.name for name, node in self.classes() for row in node.body if isinstance(row, ast.FunctionDef)}

    def own_attributes(self):
        """The names of all attributes that the package assigns."""
        return {node.attr for name, node in self.nodes(ast.Attribute) if isinstance(node.ctx, ast.Store)}

    def test_no_name_is_a_method_and_an_attribute(self):
        self.assertEqual(self.own_methods() & self.own_attributes(), set())

    def test_attributes_that_are_read_are_assigned(self):
        known = self.own_methods() | self.own_attributes() | METHODS | {"add", "__init__"}
        for name, node in self.nodes(ast.Attribute):
            self.assertIn(node.attr, known, (name, node.lineno))

    def test_own_names_are_none_of_builtin_values(self):
        taken = {word for value in (str, int, list, dict, set, bytes, tuple) for word in dir(value)}
        self.assertEqual((self.own_methods() - set(DOUBLE) | self.own_attributes()) & taken, set())

    def test_double_underscore_methods(self):
        for word in self.own_methods():
            if word.startswith("__"):
                self.assertIn(word, DOUBLE)

    def test_no_method_twice(self):
        for name, node in self.classes():
            methods = [row.name for row in node.body if isinstance(row, ast.FunctionDef)]
            self.assertEqual(len(methods), len(set(methods)), (name, node.name))

    def test_no_generators(self):
        self.assertEqual([(name, node.lineno) for name, node in self.nodes(ast.GeneratorExp, ast.Yield)], [])

    def test_parameters_and_variables_hide_nothing(self):
        for name in files():
            tree = ast.parse(read(name))
            hidden = set(dir(builtins)) | {node.name for node in ast.walk(tree) if isinstance(node, ast.ClassDef)}
            for node in ast.walk(tree):
                if isinstance(node, ast.ImportFrom):
                    hidden |= {alias.name for alias in node.names}
            for node in ast.walk(tree):
                if isinstance(node, ast.arg):
                    self.assertNotIn(node.arg, hidden, (name, node.lineno))
                if isinstance(node, ast.Name) and isinstance(node.ctx, ast.Store):
                    self.assertNotIn(node.id, hidden, (name, node.lineno))

    def test_no_two_files_import_each_other(self):
        reached = {name: set() for name in files()}
        for name, node in self.nodes(ast.ImportFrom):
            reached[name].add(node.module.split(".")[1] + ".py")
        for again in reached:
            for name in reached:
                reached[name] |= {far for near in reached[name] for far in reached[near]}
        for name in reached:
            self.assertNotIn(name, reached[name])

    def test_eq_and_len_are_single_returns(self):
        for name, node in self.nodes(ast.FunctionDef):
            if node.name in ("__eq__", "__len__"):
                self.assertEqual([row.__class__.__name__ for row in node.body], ["Return"], (name, node.lineno))


class Narrower(Nodes, unittest.TestCase):
    def parents(self):
        """Triples (file, node, parent) of all nodes."""
        found = []
        for name in files():
            for parent in ast.walk(ast.parse(read(name))):
                found += [(name, node, parent) for node in ast.iter_child_nodes(parent)]
        return found

    def called(self, node):
        """The plain name that a call calls, None where it is no plain name."""
        return node.func.id if isinstance(node, ast.Call) and isinstance(node.func, ast.Name) else None

    def test_attributes_are_assigned_through_a_local_name(self):
        for name, node in self.nodes(ast.Attribute):
            if isinstance(node.ctx, ast.Store):
                self.assertIsInstance(node.value, ast.Name, (name, node.lineno))

    def test_behind_a_star_in_a_call_stands_a_name(self):
        for name, node in self.nodes(ast.Call):
            for argument in node.args:
                if isinstance(argument, ast.Starred):
                    self.assertIsInstance(argument.value, ast.Name, (name, node.lineno))
            self.assertNotIn(None, [keyword.arg for keyword in node.keywords], (name, node.lineno))

    def test_sets_stand_where_they_may(self):
        for name, node, parent in self.parents():
            if isinstance(node, (ast.Set, ast.SetComp)) or self.called(node) == "set":
                stands = self.called(parent) in ("sorted", "len") or isinstance(parent, (ast.Compare, ast.Assign))
                self.assertTrue(stands, (name, node.lineno))

    def test_what_is_iterated_at_once(self):
        for name, node, parent in self.parents():
            lazy = self.called(node) in ("zip", "enumerate", "reversed", "range")
            lazy = lazy or (
                isinstance(node, ast.Call) and isinstance(node.func, ast.Attribute) and node.func.attr in ("items", "keys", "values")
            )
            if lazy:
                looped = isinstance(parent, (ast.For, ast.comprehension)) and parent.iter == node
                self.assertTrue(looped or self.called(parent) in ("list", "tuple", "dict", "sorted"), (name, node.lineno))

    def test_keywords_of_builtins(self):
        for name, node in self.nodes(ast.Call):
            if self.called(node) in BUILTINS:
                words = {keyword.arg for keyword in node.keywords}
                self.assertLessEqual(words, {"key", "reverse"} if self.called(node) == "sorted" else set(), (name, node.lineno))

    def test_any_and_the_like_take_lists(self):
        for name, node in self.nodes(ast.Call):
            if self.called(node) in ("any", "all", "sum"):
                self.assertIsInstance(node.args[0], (ast.ListComp, ast.Name), (name, node.lineno))

    def test_errors_are_made_where_they_are_raised(self):
        for name, node in self.nodes(ast.Raise):
            self.assertIsInstance(node.exc, ast.Call, (name, node.lineno))
            self.assertIsInstance(node.exc.func, ast.Name, (name, node.lineno))

    def test_own_errors_alone_are_caught(self):
        for name, node in self.nodes(ast.ExceptHandler):
            self.assertIsInstance(node.type, ast.Name, (name, node.lineno))
            self.assertIn(node.type.id, ("NoWorld", "TooMany"), (name, node.lineno))

    def test_no_lambdas_decorators_or_sign_of_percent(self):
        self.assertEqual(self.nodes(ast.Lambda), [])
        for name, node in self.nodes(ast.FunctionDef, ast.ClassDef):
            self.assertEqual(node.decorator_list, [], (name, node.lineno))
        for name in files():
            self.assertNotIn("%", read(name), name)

    def test_tables_at_module_level_hold_no_lists_or_dicts(self):
        for name in files():
            for row in ast.parse(read(name)).body:
                if isinstance(row, ast.Assign):
                    inner = list(ast.walk(row.value))[1:]
                    self.assertEqual([node for node in inner if isinstance(node, (ast.List, ast.Dict))], [], (name, row.lineno))
