"""Whether the package keeps to those rules of its small part of Python that a program can see."""

import ast
import builtins
import pathlib
import re
import unittest

PACKAGE = pathlib.Path(__file__).resolve().parent.parent / "hexaddress"
BUILT_IN = """
len range enumerate zip min max sum abs sorted reversed int str bool list tuple dict set frozenset isinstance
ord repr any all divmod Exception ValueError TypeError KeyError IndexError LookupError ZeroDivisionError
ArithmeticError OverflowError RuntimeError NotImplementedError AttributeError StopIteration
""".split()
NODES = """
Module FunctionDef Lambda ClassDef arguments arg ImportFrom alias Assign AugAssign If While For Return Break
Continue Pass Raise Try ExceptHandler Expr Constant List Tuple Dict Set BinOp UnaryOp BoolOp Compare IfExp Call
keyword Attribute Subscript Slice ListComp comprehension JoinedStr FormattedValue Name Load Store
Add Sub Mult FloorDiv Mod Pow BitAnd BitOr BitXor LShift RShift Invert USub UAdd Not And Or
Eq NotEq Lt LtE Gt GtE Is IsNot In NotIn
""".split()
WORDS = """
type typing typing_extensions enum Enum IntEnum StrEnum Flag IntFlag Generic Protocol ABC ABCMeta namedtuple
NamedTuple TypedDict TYPE_CHECKING abstractmethod
""".split()
SPECIAL = ["__init__", "__eq__", "__repr__", "__str__", "__len__"]
METHODS = """
append clear copy count endswith extend find get index insert isalnum isalpha isdigit islower isspace isupper items
join keys ljust lower lstrip partition pop remove replace reverse rfind rjust rpartition rsplit rstrip setdefault
split splitlines startswith strip update upper values zfill bit_length
""".split()
KEYWORDS = {
    "sorted": ["key", "reverse"], "min": ["key", "default"], "max": ["key", "default"], "sum": ["start"],
    "enumerate": ["start"], "zip": ["strict"],
}
UNUSED = """
register mro elements open input version_info with_traceback add_note attrgetter breakpoint builtins compile
copyright credits delattr dir eval exec exit gc getattr globals hasattr help id importlib license locals
methodcaller os quit setattr super type vars sys __name__
""".split()
WALKED_AT_ONCE = ["zip", "enumerate", "reversed", "range"]
WALKERS = ["list", "tuple", "dict", "sorted", "sum", "any", "all", "enumerate", "zip", "min", "max"]


def package_files():
    return [path for path in sorted(PACKAGE.rglob("*")) if "__pycache__" not in path.parts]


def walked():
    for path in package_files():
        for node in ast.walk(ast.parse(path.read_text())):
            yield f"{path.name}:{getattr(node, 'lineno', 0)}", node


def trees():
    return {path.stem: ast.parse(path.read_text()) for path in package_files()}


def defs_of(node, kind):
    return [inner for inner in node.body if isinstance(inner, kind)]


def classes():
    return [node for tree in trees().values() for node in defs_of(tree, ast.ClassDef)]


def own_methods():
    return {method.name for one in classes() for method in defs_of(one, ast.FunctionDef)} - set(SPECIAL)


def own_values():
    return {
        node.attr for where, node in walked()
        if isinstance(node, ast.Attribute) and isinstance(node.ctx, ast.Store)
    }


def names_of_top(tree):
    """Each name that the top of a file binds, as often as it does, those that it draws from elsewhere first."""
    drawn = [name.name for node in defs_of(tree, ast.ImportFrom) for name in node.names]
    own = [node.name for node in defs_of(tree, (ast.FunctionDef, ast.ClassDef))]
    own += [target.id for node in defs_of(tree, ast.Assign) for target in node.targets]
    return drawn, own


def bound_names(node):
    if isinstance(node, (ast.FunctionDef, ast.ClassDef)):
        return [node.name]
    if isinstance(node, ast.arg):
        return [node.arg]
    if isinstance(node, ast.Name) and isinstance(node.ctx, ast.Store):
        return [node.id]
    return []


class Language(unittest.TestCase):
    def test_files_and_signs(self):
        self.assertIn(PACKAGE / "__init__.py", package_files())
        for path in package_files():
            self.assertRegex(path.name, r"^[a-z_][a-z0-9_]*\.py$")
            text = path.read_text()
            self.assertEqual(re.findall(r"[^ -~\n]", text), [], path.name)
            self.assertLessEqual(len(text.splitlines()), 400, path.name)
            self.assertLessEqual(max(map(len, text.splitlines()), default=0), 120, path.name)

    def test_words_that_stand_nowhere(self):
        for path in package_files():
            text = path.read_text()
            self.assertEqual([word for word in WORDS if re.search(rf"\b{word}\b", text)], [], path.name)
            self.assertEqual(re.findall("dataclass|overload|contextmanager", text), [], path.name)

    def test_statements_and_expressions(self):
        for where, node in walked():
            self.assertIn(type(node).__name__, NODES, where)
            if isinstance(node, (ast.For, ast.While)):
                self.assertEqual(node.orelse, [], where)
            if isinstance(node, ast.Try):
                self.assertEqual(node.finalbody, [], where)
            if isinstance(node, ast.Assign):
                self.assertEqual(len(node.targets), 1, where)
            if isinstance(node, ast.Constant):
                self.assertIsInstance(node.value, (int, str, type(None)), where)

    def test_imports(self):
        for where, node in walked():
            if isinstance(node, ast.ImportFrom):
                self.assertEqual(node.level, 0, where)
                self.assertRegex(node.module, r"^hexaddress\.[a-z_]+$", where)
                self.assertNotIn("*", [name.name for name in node.names], where)

    def test_defs(self):
        for where, node in walked():
            if isinstance(node, (ast.FunctionDef, ast.ClassDef)):
                self.assertEqual(node.decorator_list, [], where)
            if isinstance(node, ast.FunctionDef):
                self.assertLessEqual(node.end_lineno - node.lineno + 1, 40, where)
            if isinstance(node, ast.arguments):
                self.assertEqual((node.vararg, node.kwarg, node.kwonlyargs, node.posonlyargs), (None, None, [], []))

    def test_names(self):
        built_in = dir(builtins)
        for where, node in walked():
            for name in bound_names(node):
                self.assertNotIn(name, built_in, where)
                if name not in SPECIAL:
                    self.assertRegex(name, r"^[A-Za-z][A-Za-z0-9_]*$", where)
            if isinstance(node, ast.Name) and node.id in built_in:
                self.assertIn(node.id, BUILT_IN, where)

    def test_each_name_once_at_the_top(self):
        for stem, tree in trees().items():
            drawn, own = names_of_top(tree)
            self.assertEqual(len(set(drawn + own)), len(drawn + own), stem)
            taken = drawn + [node.name for node in defs_of(tree, ast.ClassDef)]
            for node in ast.walk(tree):
                if isinstance(node, ast.arg) or isinstance(node, ast.Name) and isinstance(node.ctx, ast.Store):
                    self.assertEqual([name for name in bound_names(node) if name in taken], [], stem)

    def test_what_stands_at_the_top(self):
        for stem, tree in trees().items():
            for place, node in enumerate(tree.body):
                docstring = place == 0 and isinstance(node, ast.Expr) and isinstance(node.value, ast.Constant)
                kinds = (ast.ImportFrom, ast.FunctionDef, ast.ClassDef, ast.Assign)
                self.assertTrue(docstring or isinstance(node, kinds), f"{stem}:{node.lineno}")
            for node in defs_of(tree, ast.Assign):
                for inner in ast.walk(node.value):
                    kinds = (ast.Constant, ast.Tuple, ast.Name, ast.Load, ast.UnaryOp, ast.USub)
                    self.assertTrue(inner is node.value or isinstance(inner, kinds), f"{stem}:{node.lineno}")

    def test_drawn_from_the_file_that_defines_it_and_never_in_a_circle(self):
        drawn_from = {}
        for stem, tree in trees().items():
            imports = defs_of(tree, ast.ImportFrom)
            drawn_from[stem] = [node.module.split(".")[1] for node in imports]
            for node in imports:
                defined = names_of_top(trees()[node.module.split(".")[1]])[1]
                self.assertEqual([name.name for name in node.names if name.name not in defined], [], stem)
                self.assertEqual([name.asname for name in node.names if name.asname], [], stem)
        while drawn_from:
            free = [stem for stem in drawn_from if not set(drawn_from[stem]) & set(drawn_from)]
            self.assertNotEqual(free, [], "files that draw from one another")
            for stem in free:
                drawn_from.pop(stem)

    def test_classes(self):
        names = {one.name for one in classes()}
        for one in classes():
            self.assertLessEqual(len(one.bases), 1, one.name)
            for inner in one.body:
                self.assertIsInstance(inner, (ast.FunctionDef, ast.Pass), one.name)
            methods = [method.name for method in defs_of(one, ast.FunctionDef)]
            self.assertEqual(len(set(methods)), len(methods), one.name)
            for base in one.bases:
                self.assertIn(base.id, names | {"ValueError"}, one.name)
        self.assertEqual(own_methods() & own_values(), set())
        for name in own_methods() | own_values():
            for kind in (str, int, list, dict, set, bytes, tuple):
                self.assertFalse(hasattr(kind, name), name)

    def test_names_that_are_not_used(self):
        for where, node in walked():
            if isinstance(node, ast.Name):
                self.assertNotIn(node.id, UNUSED, where)
            if isinstance(node, ast.Attribute):
                self.assertNotIn(node.attr, UNUSED[:8] + ["format", "format_map"], where)

    def test_methods_and_keywords(self):
        called = [node.func for where, node in walked() if isinstance(node, ast.Call)]
        self.assertEqual([func for func in called if not isinstance(func, (ast.Name, ast.Attribute))], [])
        for where, node in walked():
            if isinstance(node, ast.Attribute) and isinstance(node.ctx, ast.Load):
                self.assertIn(node.attr, set(METHODS) | own_methods() | own_values(), where)
            if isinstance(node, ast.Call) and isinstance(node.func, ast.Attribute):
                self.assertEqual(node.keywords, [], where)
            elif isinstance(node, ast.Call) and node.func.id in dir(builtins):
                allowed = KEYWORDS.get(node.func.id, [])
                self.assertEqual([word.arg for word in node.keywords if word.arg not in allowed], [], where)

    def test_signs_between_values(self):
        for where, node in walked():
            if isinstance(node, ast.Compare):
                for sign, right in zip(node.ops, node.comparators):
                    if isinstance(sign, (ast.Is, ast.IsNot)):
                        self.assertIsInstance(right, ast.Constant, where)
                        self.assertIn(right.value, (None, True, False), where)
            if isinstance(node, ast.BinOp) and isinstance(node.op, ast.Pow):
                self.assertIsInstance(node.right, ast.Constant, where)
                self.assertIn(node.right.value, range(65), where)
            if isinstance(node, ast.Constant) and isinstance(node.value, str):
                self.assertNotIn("%", node.value, where)

    def test_walked_at_once(self):
        at_once = []
        for where, node in walked():
            if isinstance(node, (ast.For, ast.comprehension)):
                at_once.append(ast.dump(node.iter, include_attributes=True))
            if isinstance(node, ast.Call) and isinstance(node.func, ast.Name) and node.func.id in WALKERS:
                at_once += [ast.dump(handed_in, include_attributes=True) for handed_in in node.args]
        for where, node in walked():
            if isinstance(node, ast.Call) and isinstance(node.func, ast.Name) and node.func.id in WALKED_AT_ONCE:
                self.assertIn(ast.dump(node, include_attributes=True), at_once, where)

    def test_no_sets_and_no_annotations(self):
        for where, node in walked():
            self.assertNotIsInstance(node, ast.Set, where)
            self.assertNotIn(getattr(node, "id", None), ("set", "frozenset"), where)
            self.assertIsNone(getattr(node, "annotation", None), where)
            self.assertIsNone(getattr(node, "returns", None), where)

    def test_errors(self):
        own_errors = {one.name for one in classes() if one.bases}
        for where, node in walked():
            if isinstance(node, ast.Raise):
                self.assertIsInstance(node.exc, ast.Call, where)
                self.assertIn(node.exc.func.id, own_errors, where)
            if isinstance(node, ast.ExceptHandler):
                self.assertIn(node.type.id, own_errors | {"KeyError", "ZeroDivisionError"}, where)


if __name__ == "__main__":
    unittest.main()
