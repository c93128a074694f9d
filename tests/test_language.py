"""Whether the package keeps to those rules of its small part of Python that a program can see."""

import ast
import builtins
import pathlib
import re
import unittest

PACKAGE = pathlib.Path(__file__).resolve().parent.parent / "hexaddress"
BUILT_IN = """
len range enumerate zip min max sum abs sorted reversed int str bool list tuple dict set frozenset isinstance
ord repr any all divmod Exception ValueError TypeError KeyError IndexError LookupError ZeroDivisionError
ArithmeticError OverflowError RuntimeError NotImplementedError AttributeError StopIteration
""".split()
NODES = """
Module FunctionDef Lambda ClassDef arguments arg ImportFrom alias Assign AugAssign If While For Return Break
Continue Pass Raise Try ExceptHandler Expr Constant List Tuple Dict Set BinOp UnaryOp BoolOp Compare IfExp Call
keyword Attribute Subscript Slice ListComp comprehension JoinedStr FormattedValue Name Load Store
Add Sub Mult FloorDiv Mod Pow BitAnd BitOr BitXor LShift RShift Invert USub UAdd Not And Or
Eq NotEq Lt LtE Gt GtE Is IsNot In NotIn
""".split()
WORDS = """
type typing typing_extensions enum Enum IntEnum StrEnum Flag IntFlag Generic Protocol ABC ABCMeta namedtuple
NamedTuple TypedDict TYPE_CHECKING abstractmethod
""".split()
SPECIAL = ["__init__", "__eq__", "__repr__", "__str__", "__len__"]


def package_files():
    return [path for path in sorted(PACKAGE.rglob("*")) if "__pycache__" not in path.parts]


def walked():
    for path in package_files():
        for node in ast.walk(ast.parse(path.read_text())):
            yield f"{path.name}:{getattr(node, 'lineno', 0)}", node


def bound_names(node):
    if isinstance(node, (ast.FunctionDef, ast.ClassDef)):
        return [node.name]
    if isinstance(node, ast.arg):
        return [node.arg]
    if isinstance(node, ast.Name) and isinstance(node.ctx, ast.Store):
        return [node.id]
    return []


class Language(unittest.TestCase):
    def test_files_and_signs(self):
        self.assertIn(PACKAGE / "__init__.py", package_files())
        for path in package_files():
            self.assertRegex(path.name, r"^[a-z_][a-z0-9_]*\.py$")
            text = path.read_text()
            self.assertEqual(re.findall(r"[^ -~\n]", text), [], path.name)
            self.assertLessEqual(len(text.splitlines()), 400, path.name)
            self.assertLessEqual(max(map(len, text.splitlines()), default=0), 120, path.name)

    def test_words_that_stand_nowhere(self):
        for path in package_files():
            text = path.read_text()
            self.assertEqual([word for word in WORDS if re.search(rf"\b{word}\b", text)], [], path.name)
            self.assertEqual(re.findall("dataclass|overload|contextmanager", text), [], path.name)

    def test_statements_and_expressions(self):
        for where, node in walked():
            self.assertIn(type(node).__name__, NODES, where)
            if isinstance(node, (ast.For, ast.While)):
                self.assertEqual(node.orelse, [], where)
            if isinstance(node, ast.Try):
                self.assertEqual(node.finalbody, [], where)
            if isinstance(node, ast.Assign):
                self.assertEqual(len(node.targets), 1, where)
            if isinstance(node, ast.Constant):
                self.assertIsInstance(node.value, (int, str, type(None)), where)

    def test_imports(self):
        for where, node in walked():
            if isinstance(node, ast.ImportFrom):
                self.assertEqual(node.level, 0, where)
                self.assertRegex(node.module, r"^hexaddress\.[a-z_]+$", where)
                self.assertNotIn("*", [name.name for name in node.names], where)

    def test_defs(self):
        for where, node in walked():
            if isinstance(node, (ast.FunctionDef, ast.ClassDef)):
                self.assertEqual(node.decorator_list, [], where)
            if isinstance(node, ast.FunctionDef):
                self.assertLessEqual(node.end_lineno - node.lineno + 1, 40, where)
            if isinstance(node, ast.arguments):
                self.assertEqual((node.vararg, node.kwarg, node.kwonlyargs, node.posonlyargs), (None, None, [], []))

    def test_names(self):
        built_in = dir(builtins)
        for where, node in walked():
            for name in bound_names(node):
                self.assertNotIn(name, built_in, where)
                if name not in SPECIAL:
                    self.assertRegex(name, r"^[A-Za-z][A-Za-z0-9_]*$", where)
            if isinstance(node, ast.Name) and node.id in built_in:
                self.assertIn(node.id, BUILT_IN, where)


if __name__ == "__main__":
    unittest.main()
