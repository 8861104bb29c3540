"""The form of the package's files: the rules on it that are easily broken unseen."""

import ast
import builtins
import re
import unittest
from pathlib import Path

PACKAGE = Path(__file__).resolve().parent.parent / "yearpledge"
FILES = sorted(PACKAGE.rglob("*.py"))

WORDS = re.compile(
    r"\b(type|typing|typing_extensions|enum|Enum|IntEnum|StrEnum|Flag|IntFlag|Generic|Protocol|ABC|ABCMeta"
    r"|namedtuple|NamedTuple|TypedDict|TYPE_CHECKING|abstractmethod)\b|dataclass|overload|contextmanager")
OWN = set("""len range enumerate zip min max sum abs sorted reversed int str bool list tuple dict set frozenset isinstance
    ord repr any all divmod Exception ValueError TypeError KeyError IndexError LookupError ZeroDivisionError
    ArithmeticError OverflowError RuntimeError NotImplementedError AttributeError StopIteration""".split())
METHODS = ("__init__", "__eq__", "__repr__", "__str__", "__len__")
RULED_OUT = (
    ast.Import, ast.With, ast.Match, ast.Delete, ast.Global, ast.Nonlocal, ast.Assert, ast.Yield, ast.YieldFrom,
    ast.AsyncFunctionDef, ast.AsyncFor, ast.AsyncWith, ast.Await, ast.Div, ast.Set, ast.SetComp, ast.DictComp,
    ast.GeneratorExp, ast.NamedExpr, ast.Starred, ast.AnnAssign, ast.MatMult)


def walk_files():
    for path in FILES:
        for node in ast.walk(ast.parse(path.read_text(encoding="ascii"))):
            yield f"{path.name}:{getattr(node, 'lineno', 0)}", node


def bound_names(node):
    if isinstance(node, (ast.FunctionDef, ast.ClassDef)):
        return [node.name]
    if isinstance(node, ast.arg):
        return [node.arg]
    if isinstance(node, ast.Name) and isinstance(node.ctx, ast.Store):
        return [node.id]
    if isinstance(node, ast.Attribute):
        return [node.attr]
    return []


class FormTest(unittest.TestCase):
    def test_only_plain_files(self):
        for path in PACKAGE.rglob("*"):
            if "__pycache__" not in path.parts:
                self.assertRegex(path.name, r"^([a-z][a-z0-9_]*|__init__)\.py$")

    def test_signs_sizes_and_words(self):
        for path in FILES:
            lines = path.read_text(encoding="ascii").split("\n")
            self.assertLessEqual(len(lines), 401, path.name)
            for number, line in enumerate(lines, start=1):
                place = f"{path.name}:{number}"
                self.assertRegex(line, r"^[ -~]{0,120}\Z", place)
                self.assertNotRegex(line, WORDS, place)

    def test_no_statement_or_value_that_is_ruled_out(self):
        for place, node in walk_files():
            self.assertNotIsInstance(node, RULED_OUT, place)
            if isinstance(node, ast.Constant):
                self.assertNotIsInstance(node.value, (float, complex, bytes), place)
            if isinstance(node, (ast.For, ast.While)):
                self.assertEqual(node.orelse, [], place)
            if isinstance(node, ast.Assign):
                self.assertEqual(len(node.targets), 1, place)
            if isinstance(node, ast.BinOp) and isinstance(node.op, ast.Pow):
                self.assertIsInstance(node.right, ast.Constant, place)

    def test_functions_and_classes(self):
        for place, node in walk_files():
            if isinstance(node, (ast.FunctionDef, ast.ClassDef)):
                self.assertEqual(node.decorator_list, [], place)
            if isinstance(node, ast.FunctionDef):
                self.assertLessEqual(node.end_lineno - node.lineno + 1, 40, place)
                told = node.args
                self.assertEqual((told.vararg, told.kwarg, told.kwonlyargs, told.posonlyargs), (None, None, [], []))
            if isinstance(node, ast.ClassDef):
                self.assertLessEqual(len(node.bases), 1, place)
                for row in node.body:
                    self.assertIsInstance(row, (ast.FunctionDef, ast.Pass), place)

    def test_imports_are_of_the_package_alone(self):
        for place, node in walk_files():
            if isinstance(node, ast.ImportFrom):
                self.assertEqual(node.level, 0, place)
                self.assertTrue(node.module.startswith("yearpledge."), place)
                for drawn in node.names:
                    self.assertNotEqual(drawn.name, "*", place)

    def test_names(self):
        for place, node in walk_files():
            for name in bound_names(node):
                if name not in METHODS:
                    self.assertRegex(name, r"^[A-Za-z][A-Za-z0-9_]*$", place)
                if not isinstance(node, ast.Attribute):
                    self.assertFalse(hasattr(builtins, name) and name not in METHODS, f"{place} {name}")
            if isinstance(node, ast.Name) and hasattr(builtins, node.id):
                self.assertIn(node.id, OWN, place)

    def test_no_parameter_or_local_is_called_like_a_class_or_an_import_of_its_file(self):
        for path in FILES:
            tree = ast.parse(path.read_text(encoding="ascii"))
            taken = {drawn.name for node in tree.body if isinstance(node, ast.ImportFrom) for drawn in node.names}
            taken |= {node.name for node in tree.body if isinstance(node, ast.ClassDef)}
            for node in ast.walk(tree):
                if isinstance(node, (ast.arg, ast.Name)) or (isinstance(node, ast.FunctionDef) and node in tree.body):
                    self.assertEqual(taken & set(bound_names(node)), set(), f"{path.name}:{node.lineno}")

    def test_no_name_is_a_method_and_a_value(self):
        methods = set()
        values = set()
        for place, node in walk_files():
            if isinstance(node, ast.ClassDef):
                methods |= {row.name for row in node.body if isinstance(row, ast.FunctionDef)}
            if isinstance(node, ast.Attribute) and isinstance(node.ctx, ast.Store):
                values.add(node.attr)
        self.assertEqual(methods & values, set())

    def test_a_name_is_drawn_from_the_file_that_defines_it(self):
        for place, node in walk_files():
            if isinstance(node, ast.ImportFrom):
                tree = ast.parse((PACKAGE / (node.module.split(".")[1] + ".py")).read_text(encoding="ascii"))
                defined = {name for row in tree.body if not isinstance(row, ast.ImportFrom)
                           for inner in [row] + getattr(row, "targets", []) for name in bound_names(inner)}
                for drawn in node.names:
                    self.assertIn(drawn.name, defined, place)

    def test_no_two_files_draw_from_one_another(self):
        draws = {}
        for path in FILES:
            tree = ast.parse(path.read_text(encoding="ascii"))
            draws[path.stem] = {node.module.split(".")[1] for node in tree.body if isinstance(node, ast.ImportFrom)}
        while draws:
            free = [name for name in draws if not draws[name] & set(draws)]
            self.assertNotEqual(free, [], sorted(draws))
            for name in free:
                del draws[name]


if __name__ == "__main__":
    unittest.main()
