"""The program's form: the part of Python that the package keeps to, as far as it is quickly seen."""

import ast
import builtins
import re
import unittest
from pathlib import Path

PACKAGE = Path(__file__).resolve().parent.parent / "trialfield"

BUILT_IN = set(
    "len range enumerate zip min max sum abs sorted reversed int str bool list tuple dict set frozenset"
    " isinstance ord repr any all divmod Exception ValueError TypeError KeyError IndexError LookupError"
    " ZeroDivisionError ArithmeticError OverflowError RuntimeError NotImplementedError AttributeError"
    " StopIteration".split()
)

METHODS = set(
    "append clear copy count endswith extend find get index insert isalnum isalpha isdigit islower isspace"
    " isupper items join keys ljust lower lstrip partition pop remove replace reverse rfind rjust rpartition"
    " rsplit rstrip setdefault split splitlines startswith strip update upper values zfill bit_length".split()
)

NOWHERE = re.compile(
    r"\b(type|typing|typing_extensions|enum|Enum|IntEnum|StrEnum|Flag|IntFlag|Generic|Protocol|ABC|ABCMeta"
    r"|namedtuple|NamedTuple|TypedDict|TYPE_CHECKING|abstractmethod)\b|dataclass|overload|contextmanager"
)

STATEMENTS = (
    ast.FunctionDef, ast.ClassDef, ast.ImportFrom, ast.Assign, ast.AugAssign, ast.If, ast.While, ast.For,
    ast.Return, ast.Break, ast.Continue, ast.Pass, ast.Raise, ast.Try, ast.Expr,
)

LEFT_OUT = (
    ast.Div, ast.Set, ast.SetComp, ast.DictComp, ast.GeneratorExp, ast.NamedExpr, ast.Starred, ast.Await,
    ast.Yield, ast.YieldFrom, ast.MatMult,
)


def package_files():
    return sorted(PACKAGE.glob("*.py"))


def nodes_of(path):
    return list(ast.walk(ast.parse(path.read_text(encoding="ascii"))))


class Language(unittest.TestCase):
    def test_nothing_but_modules_lies_in_the_package(self):
        for path in PACKAGE.iterdir():
            if path.name != "__pycache__":
                self.assertRegex(path.name, r"\A[a-z0-9_]+\.py\Z")

    def test_signs_and_sizes(self):
        for path in package_files():
            text = path.read_text(encoding="utf-8")
            self.assertRegex(text, r"\A[ -~\n]*\Z", path)
            self.assertIsNone(NOWHERE.search(text), path)
            lines = text.split("\n")
            self.assertLessEqual(len(lines), 401, path)
            self.assertLessEqual(max(len(line) for line in lines), 120, path)
            for node in nodes_of(path):
                if isinstance(node, ast.FunctionDef):
                    self.assertLessEqual(node.end_lineno - node.lineno + 1, 40, (path, node.name))

    def test_statements_and_expressions(self):
        for path in package_files():
            for node in nodes_of(path):
                where = (path.name, getattr(node, "lineno", None))
                if isinstance(node, ast.stmt):
                    self.assertIsInstance(node, STATEMENTS, where)
                self.assertNotIsInstance(node, LEFT_OUT, where)
                if isinstance(node, ast.Assign):
                    self.assertEqual(len(node.targets), 1, where)
                if isinstance(node, ast.Constant):
                    self.assertNotIsInstance(node.value, (float, bytes, complex), where)
                if isinstance(node, ast.ImportFrom):
                    self.assertTrue(node.module.startswith("trialfield."), where)
                    self.assertEqual(node.level, 0, where)

    def test_comprehensions_and_is(self):
        for path in package_files():
            for node in nodes_of(path):
                where = (path.name, getattr(node, "lineno", None))
                if isinstance(node, ast.ListComp):
                    self.assertEqual(len(node.generators), 1, where)
                    self.assertLessEqual(len(node.generators[0].ifs), 1, where)
                if isinstance(node, ast.Compare):
                    for operator, right in zip(node.ops, node.comparators):
                        if isinstance(operator, (ast.Is, ast.IsNot)):
                            self.assertIn(getattr(right, "value", "another"), (None, True, False), where)

    def test_names_are_drawn_from_the_file_that_defines_them_and_kept(self):
        for path in package_files():
            drawn = []
            for node in nodes_of(path):
                if isinstance(node, ast.ImportFrom):
                    source = PACKAGE / (node.module.split(".")[1] + ".py")
                    for alias in node.names:
                        defined = re.compile(r"^(def |class )?" + alias.name + r"\b", re.MULTILINE)
                        self.assertRegex(source.read_text(encoding="ascii"), defined, path.name)
                        drawn.append(alias.asname or alias.name)
            for node in nodes_of(path):
                where = (path.name, getattr(node, "lineno", None))
                if isinstance(node, ast.Name) and isinstance(node.ctx, ast.Store):
                    self.assertNotIn(node.id, drawn, where)
                if isinstance(node, ast.arg):
                    self.assertNotIn(node.arg, drawn, where)

    def test_names_and_methods(self):
        own = {n.name for path in package_files() for n in nodes_of(path) if isinstance(n, ast.FunctionDef)}
        python_own = set(dir(builtins)) - BUILT_IN
        for path in package_files():
            for node in nodes_of(path):
                where = (path.name, getattr(node, "lineno", None))
                if isinstance(node, ast.Name):
                    self.assertNotIn(node.id, python_own, where)
                    if isinstance(node.ctx, ast.Store):
                        self.assertNotIn(node.id, BUILT_IN, where)
                if isinstance(node, ast.arg):
                    self.assertNotIn(node.arg, dir(builtins), where)
                if isinstance(node, ast.Call) and isinstance(node.func, ast.Attribute):
                    self.assertIn(node.func.attr, METHODS | own | {"__init__"}, where)


if __name__ == "__main__":
    unittest.main()
