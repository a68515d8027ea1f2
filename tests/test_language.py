"""The package keeps to the part of Python that the program is written in, as far as a walk over its files can tell."""

import ast
import builtins
import pathlib
import re
import unittest

PACKAGE = pathlib.Path(__file__).resolve().parent.parent / "cuebook"

OWN_NAMES = set(
    "len range enumerate zip min max sum abs sorted reversed int str bool list tuple dict set frozenset isinstance ord "
    "repr any all divmod Exception ValueError TypeError KeyError IndexError LookupError ZeroDivisionError "
    "ArithmeticError OverflowError RuntimeError NotImplementedError AttributeError StopIteration object".split()
)

METHODS = set(
    "append clear copy count endswith extend find get index insert isalnum isalpha isdigit islower isspace isupper items "
    "join keys ljust lower lstrip partition pop remove replace reverse rfind rjust rpartition rsplit rstrip setdefault "
    "split splitlines startswith strip update upper values zfill bit_length".split()
)

UNDERSCORED = {"__init__", "__eq__", "__repr__", "__str__", "__len__"}

BARRED = set("register mro elements open input version_info with_traceback add_note format format_map args".split())

OWN_KINDS = (str, int, list, tuple, dict, set, bytes)

BARRED_WORDS = (
    r"\b(type|typing|typing_extensions|enum|Enum|IntEnum|StrEnum|Flag|IntFlag|Generic|Protocol|ABC|ABCMeta|namedtuple"
    r"|NamedTuple|TypedDict|TYPE_CHECKING|abstractmethod)\b|dataclass|overload|contextmanager"
)

NODES = set(
    "Module ImportFrom alias FunctionDef ClassDef arguments arg Assign AugAssign If While For Return Break Continue Pass "
    "Raise Try ExceptHandler Expr Constant Name Load Store List Tuple Dict Set BinOp Add Sub Mult FloorDiv Mod Pow BitAnd "
    "BitOr BitXor LShift RShift UnaryOp USub UAdd Invert Not BoolOp And Or Compare Eq NotEq Lt LtE Gt GtE Is IsNot In "
    "NotIn IfExp Call keyword Attribute Subscript Slice ListComp comprehension JoinedStr FormattedValue Lambda".split()
)

WALKS = {"zip", "enumerate", "reversed", "range", "items", "keys", "values"}

# What may walk these on the spot, as the first thing that it is called with.
WALKERS = {"list", "tuple", "dict", "sorted", "sum", "any", "all", "enumerate", "zip", "min", "max"}

TOP_NODES = (ast.ImportFrom, ast.FunctionDef, ast.ClassDef, ast.Assign)


def package_files():
    return sorted(path for path in PACKAGE.rglob("*") if path.is_file() and "__pycache__" not in path.parts)


def trees():
    return [(path.name, ast.parse(path.read_text("ascii"))) for path in package_files()]


def walked(kinds):
    return [(name, node) for name, tree in trees() for node in ast.walk(tree) if isinstance(node, kinds)]


def parents(tree):
    return {child: node for node in ast.walk(tree) for child in ast.iter_child_nodes(node)}


def called(node):
    """The name of the function or method that a call calls; None for what is no call."""
    return getattr(node.func, "id", getattr(node.func, "attr", None)) if isinstance(node, ast.Call) else None


def is_set_beside_others(node, above):
    """Whether a call of set stands where it is neither kept nor walked."""
    while isinstance(above[node], ast.BinOp):
        node = above[node]
    return isinstance(above[node], ast.Compare) or called(above[node]) in ("sorted", "len")


def bound_at_the_top(tree):
    found = []
    for node in tree.body:
        if isinstance(node, (ast.FunctionDef, ast.ClassDef)):
            found.append(node.name)
        if isinstance(node, ast.Assign):
            found.extend(target.id for target in node.targets)
        if isinstance(node, ast.ImportFrom):
            found.extend(alias.asname or alias.name for alias in node.names)
    return found


def bound_within(tree):
    stored = [node.id for node in ast.walk(tree) if isinstance(node, ast.Name) and isinstance(node.ctx, ast.Store)]
    taken = [node.name for node in ast.walk(tree) if isinstance(node, ast.ExceptHandler) and node.name]
    return stored + taken + [node.arg for node in ast.walk(tree) if isinstance(node, ast.arg)]


def top_names_but_values(tree):
    return [
        name for name in bound_at_the_top(tree)
        if not any(isinstance(node, ast.Assign) and node.targets[0].id == name for node in tree.body)
    ]


class Language(unittest.TestCase):
    def test_files(self):
        self.assertIn("__init__.py", [path.name for path in package_files()])
        for path in package_files():
            self.assertEqual(path.parent, PACKAGE)
            self.assertRegex(path.name, r"\A([a-z][a-z0-9_]*|__init__)\.py\Z")

    def test_signs_and_sizes(self):
        for path in package_files():
            text = path.read_bytes().decode("ascii")
            self.assertRegex(text, r"\A[ -~\n]*\Z", path.name)
            self.assertLessEqual(len(text.splitlines()), 400, path.name)
            self.assertLessEqual(max(len(row) for row in text.splitlines()), 120, path.name)
            self.assertIsNone(re.search(BARRED_WORDS, text), path.name)

    def test_functions_are_short_and_plain(self):
        for name, node in walked(ast.FunctionDef):
            self.assertLessEqual(node.end_lineno - node.lineno + 1, 40, (name, node.name))
            self.assertEqual(node.decorator_list, [])
            self.assertIsNone(node.args.vararg or node.args.kwarg)
            self.assertEqual(node.args.kwonlyargs + node.args.posonlyargs, [])

    def test_classes(self):
        for name, node in walked(ast.ClassDef):
            self.assertLessEqual(len(node.bases), 1, (name, node.name))
            self.assertEqual(node.decorator_list + node.keywords, [])
            for part in node.body:
                self.assertIsInstance(part, (ast.FunctionDef, ast.Pass), (name, node.name))

    def test_kinds_of_nodes(self):
        for name, tree in trees():
            for node in ast.walk(tree):
                self.assertIn(type(node).__name__, NODES, (name, getattr(node, "lineno", None)))

    def test_the_top_of_a_file(self):
        for name, tree in trees():
            self.assertIsNotNone(ast.get_docstring(tree), name)
            for node in tree.body[1:]:
                self.assertIsInstance(node, TOP_NODES, name)
            names = bound_at_the_top(tree)
            self.assertEqual(len(names), len(set(names)), name)

    def test_imports(self):
        for name, tree in trees():
            for node in ast.walk(tree):
                if isinstance(node, ast.ImportFrom):
                    self.assertIn(node, tree.body, name)
                    self.assertEqual(node.level, 0, name)
                    self.assertRegex(node.module, r"\Acuebook\.[a-z]+\Z", name)
                    source = ast.parse((PACKAGE / (node.module.split(".")[1] + ".py")).read_text("ascii"))
                    defined = [part.name for part in source.body if hasattr(part, "name")]
                    for alias in node.names:
                        self.assertIn(alias.name, defined, name)

    def test_names(self):
        for name, tree in trees():
            known = set(bound_at_the_top(tree) + bound_within(tree)) | OWN_NAMES
            for node in ast.walk(tree):
                if isinstance(node, ast.Name):
                    self.assertIn(node.id, known, (name, node.lineno))
            for bound in bound_at_the_top(tree) + bound_within(tree):
                self.assertFalse(bound.startswith("_"), (name, bound))
                self.assertNotIn(bound, dir(builtins), name)
            self.assertEqual(set(bound_within(tree)) & set(top_names_but_values(tree)), set(), name)

    def test_methods_and_values(self):
        own = {node.name for name, node in walked(ast.FunctionDef)}
        for name, node in walked(ast.Attribute):
            self.assertNotIn(node.attr, BARRED, (name, node.lineno))
            if node.attr.startswith("_"):
                self.assertIn(node.attr, UNDERSCORED, (name, node.lineno))
        for name, node in walked(ast.Call):
            if isinstance(node.func, ast.Attribute):
                self.assertIn(node.func.attr, METHODS | UNDERSCORED | own, (name, node.lineno))

    def test_no_name_is_a_method_and_a_value(self):
        methods = {part.name for name, node in walked(ast.ClassDef) for part in node.body if hasattr(part, "name")}
        for name, node in walked(ast.Attribute):
            if isinstance(node.ctx, ast.Store):
                self.assertNotIn(node.attr, methods, (name, node.lineno))
                self.assertFalse(any(hasattr(kind, node.attr) for kind in OWN_KINDS), (name, node.lineno))

    def test_bases_are_only_called_for_what_they_make(self):
        classes = {node.name for name, node in walked(ast.ClassDef)}
        for name, node in walked(ast.Attribute):
            if isinstance(node.value, ast.Name) and node.value.id in classes:
                self.assertEqual(node.attr, "__init__", (name, node.lineno))

    def test_no_two_files_draw_from_one_another(self):
        drawn = {name: [] for name, tree in trees()}
        for name, node in walked(ast.ImportFrom):
            drawn[name].append(node.module.split(".")[1] + ".py")
        while drawn:
            free = [name for name in drawn if not any(other in drawn for other in drawn[name])]
            self.assertNotEqual(free, [], sorted(drawn))
            for name in free:
                drawn.pop(name)

    def test_is_stands_beside_none_and_truths(self):
        for name, node in walked(ast.Compare):
            for operator, right in zip(node.ops, node.comparators):
                if isinstance(operator, (ast.Is, ast.IsNot)):
                    self.assertIsInstance(right, ast.Constant, (name, node.lineno))
                    self.assertIn(right.value, (None, True, False), (name, node.lineno))

    def test_walked_at_once(self):
        for name, tree in trees():
            above = parents(tree)
            for node in ast.walk(tree):
                if called(node) in WALKS:
                    over = above[node]
                    walked_here = isinstance(over, (ast.For, ast.comprehension)) and over.iter == node
                    self.assertTrue(walked_here or called(over) in WALKERS, (name, node.lineno))

    def test_sets_are_not_kept(self):
        for name, tree in trees():
            above = parents(tree)
            for node in ast.walk(tree):
                if isinstance(node, ast.Set) or called(node) in ("set", "frozenset"):
                    self.assertTrue(is_set_beside_others(node, above), (name, node.lineno))

    def test_errors_are_raised_and_taken_by_name(self):
        own = {node.name for name, node in walked(ast.ClassDef)}
        for name, node in walked(ast.ExceptHandler):
            self.assertIn(getattr(node.type, "id", None), own, (name, node.lineno))
        for name, node in walked(ast.Raise):
            self.assertIn(called(node.exc), own, (name, node.lineno))

    def test_small_forms(self):
        for name, node in walked(ast.Assign):
            self.assertEqual(len(node.targets), 1, (name, node.lineno))
        for name, node in walked((ast.For, ast.While)):
            self.assertEqual(node.orelse, [], (name, node.lineno))
        for name, node in walked(ast.ListComp):
            self.assertEqual(len(node.generators), 1, (name, node.lineno))
            self.assertLessEqual(len(node.generators[0].ifs), 1, (name, node.lineno))
        for name, node in walked(ast.Constant):
            self.assertIsInstance(node.value, (int, str, bool, type(None)), (name, node.lineno))
            self.assertFalse(isinstance(node.value, str) and "%" in node.value, (name, node.lineno))
        for name, node in walked(ast.FormattedValue):
            self.assertIsInstance(node.value, ast.Name, (name, node.lineno))
            self.assertIsNone(node.format_spec, (name, node.lineno))
        for name, node in walked(ast.Expr):
            text = isinstance(node.value, ast.Constant) and isinstance(node.value.value, str)
            self.assertTrue(text or isinstance(node.value, ast.Call), (name, node.lineno))


if __name__ == "__main__":
    unittest.main()
