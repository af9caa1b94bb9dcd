"""The program's language: the rules of it that a look at the files can hold to (L numbers as in LANGUAGE.md).

With them goes promise 0.3: what imports nothing from outside and calls no other builtin has no chance, file or clock.
"""

import ast
import builtins
import re
import unittest
from pathlib import Path

PACKAGE = Path(__file__).resolve().parent.parent / "fewkept"
FILES = sorted(PACKAGE.glob("*.py"))
TREES = {path.stem: ast.parse(path.read_text()) for path in FILES}

LIBRARY = {"heapq", "math", "itertools", "collections"}
NODES = {
    "Module", "Expr", "Assign", "AugAssign", "If", "While", "For", "Return", "Break", "Continue", "Pass", "Raise",
    "Assert", "Delete", "Try", "ExceptHandler", "FunctionDef", "ClassDef", "ImportFrom", "alias", "arguments", "arg",
    "Name", "Load", "Store", "Del", "Constant", "Tuple", "List", "Dict", "Set", "Subscript", "Slice", "Attribute",
    "Call", "keyword", "Starred", "Compare", "BoolOp", "And", "Or", "UnaryOp", "Not", "USub", "BinOp", "Add", "Sub",
    "Mult", "FloorDiv", "Mod", "IfExp", "ListComp", "DictComp", "SetComp", "comprehension", "GeneratorExp", "Lambda",
    "JoinedStr", "FormattedValue", "Eq", "NotEq", "Lt", "LtE", "Gt", "GtE", "In", "NotIn", "Is", "IsNot", "Yield",
    "YieldFrom",
}
BUILTINS = set(
    "len range enumerate zip min max sum abs sorted reversed int str bool list tuple dict set isinstance ord repr any "
    "all divmod iter next map super ValueError TypeError KeyError IndexError LookupError NotImplemented".split())
METHODS = set(
    "append clear copy count endswith extend find get index insert isalnum isalpha isdigit islower isspace isupper "
    "items join keys ljust lower lstrip partition pop remove replace reverse rfind rjust rpartition rsplit rstrip "
    "setdefault split splitlines startswith strip update upper values zfill bit_length add discard sort".split())
DOUBLE = {"__init__", "__eq__", "__repr__", "__str__", "__len__"}
NO_NAMES = {"register", "mro", "elements", "open", "input", "law", "version_info", "with_traceback", "add_note"}
NO_WORDS = re.compile(r"\b(type|typing|enum|Enum|Generic|Protocol|ABC|namedtuple|NamedTuple|TypedDict|abstractmethod"
                      r"|_wall|_WallAttr)\b|dataclass|overload|contextmanager")


def nodes(*kinds):
    for stem, tree in TREES.items():
        for node in ast.walk(tree):
            if isinstance(node, kinds):
                yield stem, node


def bound_names(node):
    """The names that a node binds."""
    if isinstance(node, (ast.FunctionDef, ast.ClassDef)):
        return [node.name]
    if isinstance(node, ast.ImportFrom):
        return [alias.name for alias in node.names]
    if isinstance(node, ast.arg):
        return [node.arg]
    if isinstance(node, ast.Name) and isinstance(node.ctx, ast.Store):
        return [node.id]
    return []


class Files(unittest.TestCase):
    def test_the_folder_holds_plain_files_alone(self):
        for path in PACKAGE.iterdir():
            if path.name != "__pycache__":
                self.assertRegex(path.name, r"^[a-z0-9_]+\.py$")
        self.assertIn("__init__", TREES)

    def test_sizes(self):
        for path in FILES:
            rows = path.read_text().split("\n")
            self.assertLessEqual(len(rows), 400)
            self.assertLessEqual(max(len(row) for row in rows), 120)
        for _, node in nodes(ast.FunctionDef):
            self.assertLessEqual(node.end_lineno - node.lineno + 1, 40)

    def test_signs(self):
        for path in FILES:
            self.assertRegex(path.read_bytes().decode("ascii"), r"\A[ -~\n]*\Z")

    def test_words(self):
        for path in FILES:
            self.assertIsNone(NO_WORDS.search(path.read_text()), path)
        for stem, node in nodes(ast.Constant):
            self.assertNotIn("%", node.value if isinstance(node.value, str) else "", stem)


class Code(unittest.TestCase):
    def test_imports_come_from_the_defining_file(self):
        for stem, node in nodes(ast.Import, ast.ImportFrom):
            self.assertIsInstance(node, ast.ImportFrom, stem)
            self.assertEqual(node.level, 0)
            self.assertTrue(all(alias.asname is None for alias in node.names))
            if node.module not in LIBRARY:
                home = TREES[node.module.removeprefix("fewkept.")]
                own = [name for part in home.body if not isinstance(part, ast.ImportFrom)
                       for inner in [part, *getattr(part, "targets", [])] for name in bound_names(inner)]
                for alias in node.names:
                    self.assertIn(alias.name, own)

    def test_no_two_files_import_from_each_other(self):
        asks = {stem: {node.module.removeprefix("fewkept.") for at, node in nodes(ast.ImportFrom) if at == stem}
                for stem in TREES}
        left = dict(asks)
        while left:
            free = [stem for stem in left if not asks[stem] & set(left)]
            self.assertTrue(free, left)
            for stem in free:
                del left[stem]

    def test_module_level_holds_definitions_alone(self):
        for stem, tree in TREES.items():
            names = [name for node in tree.body for part in [node, *getattr(node, "targets", [])]
                     for name in bound_names(part)]
            self.assertEqual(len(names), len(set(names)), stem)
            for node in tree.body:
                plain = isinstance(node, (ast.ImportFrom, ast.FunctionDef, ast.ClassDef))
                worth = isinstance(node, ast.Expr) and isinstance(node.value, ast.Constant)
                table = isinstance(node, ast.Assign) and len(node.targets) == 1
                self.assertTrue(plain or worth or table, ast.dump(node))

    def test_only_the_told_kinds_of_statements_and_signs(self):
        for stem, node in nodes(ast.AST):
            self.assertIn(type(node).__name__, NODES, f"{stem}:{getattr(node, 'lineno', 0)}")
            self.assertFalse(getattr(node, "decorator_list", []))
            self.assertNotIsInstance(getattr(node, "value", None), (float, complex))

    def test_only_the_told_builtins(self):
        for stem, node in nodes(ast.Name):
            if node.id in vars(builtins):
                self.assertIn(node.id, BUILTINS, stem)
                self.assertIsInstance(node.ctx, ast.Load)

    def test_names(self):
        for stem, node in nodes(ast.AST):
            for name in bound_names(node):
                self.assertTrue(re.fullmatch(r"_?[A-Za-z][A-Za-z0-9_]*|_", name) or name in DOUBLE, f"{stem}: {name}")
                self.assertNotIn(name, vars(builtins), stem)
                self.assertNotIn(name, NO_NAMES)

    def test_no_local_name_is_a_class_or_an_import_of_its_file(self):
        for tree in TREES.values():
            taken = {name for node in tree.body if isinstance(node, (ast.ImportFrom, ast.ClassDef))
                     for name in bound_names(node)}
            for node in ast.walk(tree):
                if isinstance(node, (ast.arg, ast.Name)):
                    self.assertFalse(taken & set(bound_names(node)))

    def test_only_the_told_methods_of_values(self):
        own = {node.name for _, node in nodes(ast.FunctionDef)}
        for stem, node in nodes(ast.Call):
            if isinstance(node.func, ast.Attribute):
                self.assertIn(node.func.attr, METHODS | own | DOUBLE, stem)

    def test_no_name_is_a_method_and_an_attribute(self):
        methods = {part.name for _, node in nodes(ast.ClassDef) for part in node.body if isinstance(part, ast.FunctionDef)}
        stored = {node.attr for _, node in nodes(ast.Attribute) if isinstance(node.ctx, ast.Store)}
        self.assertFalse(methods & stored)
        called = {id(node.func) for _, node in nodes(ast.Call)}
        for stem, node in nodes(ast.Attribute):
            if isinstance(node.ctx, ast.Load) and id(node) not in called and node.attr != "__class__":
                self.assertIn(node.attr, stored, stem)

    def test_no_generators_beside_a_class_that_compares(self):
        for stem, node in nodes(ast.GeneratorExp, ast.Yield, ast.YieldFrom):
            self.fail(f"{stem}:{getattr(node, 'lineno', 0)}")

    def test_tables_of_functions_are_called_by_a_name(self):
        for stem, node in nodes(ast.Call):
            self.assertIsInstance(node.func, (ast.Name, ast.Attribute), stem)

    def test_what_compares_and_measures_changes_nothing(self):
        for stem, node in nodes(ast.FunctionDef):
            if node.name in ("__eq__", "__len__"):
                self.assertEqual([type(part).__name__ for part in node.body], ["Return"], stem)

    def test_sets_are_kept_as_told(self):
        for stem, node in nodes(ast.Return):
            self.assertNotIsInstance(node.value, (ast.Set, ast.SetComp), stem)
        for stem, node in nodes(ast.For, ast.comprehension):
            self.assertNotIsInstance(node.iter, (ast.Set, ast.SetComp), stem)

    def test_errors_are_raised_by_the_name_of_a_class(self):
        classes = {node.name for _, node in nodes(ast.ClassDef)}
        for stem, node in nodes(ast.Raise):
            self.assertTrue(isinstance(node.exc, ast.Call) and node.exc.func.id in classes | BUILTINS, stem)
        for stem, node in nodes(ast.ExceptHandler):
            self.assertIsInstance(node.type, (ast.Name, ast.Tuple), stem)
