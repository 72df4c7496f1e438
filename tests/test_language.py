"""Holds the package's files against those rules of LANGUAGE.md that can be read off the source."""

import ast
import builtins
import pathlib
import re
import unittest

PACKAGE = pathlib.Path(__file__).resolve().parent.parent / "deeprests"

BUILTINS = set("""
len range enumerate zip min max sum abs sorted reversed int str bool list tuple dict set frozenset isinstance
ord repr any all divmod Exception ValueError TypeError KeyError IndexError LookupError ZeroDivisionError
ArithmeticError OverflowError RuntimeError NotImplementedError AttributeError StopIteration
""".split())

METHODS = set("""
append clear copy count endswith extend find get index insert isalnum isalpha isdigit islower isspace isupper items
join keys ljust lower lstrip partition pop remove replace reverse rfind rjust rpartition rsplit rstrip setdefault
split splitlines startswith strip update upper values zfill bit_length
""".split())

DUNDERS = {"__init__", "__eq__", "__repr__", "__str__", "__len__", "__all__", "__version__"}

WORDS = re.compile(
    r"\b(type|typing|typing_extensions|enum|Enum|IntEnum|StrEnum|Flag|IntFlag|Generic|Protocol|ABC|ABCMeta"
    r"|namedtuple|NamedTuple|TypedDict|TYPE_CHECKING|abstractmethod)\b|dataclass|overload|contextmanager")

FORBIDDEN = (
    ast.With, ast.Match, ast.Delete, ast.Global, ast.Nonlocal, ast.Assert, ast.Yield, ast.YieldFrom, ast.Await,
    ast.AsyncFunctionDef, ast.AsyncFor, ast.AsyncWith, ast.SetComp, ast.DictComp, ast.GeneratorExp,
    ast.NamedExpr, ast.Starred, ast.Div, ast.MatMult, ast.Import, ast.AnnAssign)


def sources():
    return sorted(PACKAGE.glob("*.py"))


def bound_names(node):
    if isinstance(node, ast.Name) and isinstance(node.ctx, ast.Store):
        return [node.id]
    if isinstance(node, (ast.FunctionDef, ast.ClassDef)):
        return [node.name]
    if isinstance(node, ast.arg):
        return [node.arg]
    if isinstance(node, ast.alias):
        return [node.asname or node.name]
    if isinstance(node, ast.ExceptHandler) and node.name:
        return [node.name]
    return []


class Language(unittest.TestCase):
    def each_node(self):
        for path in sources():
            for node in ast.walk(ast.parse(path.read_text(encoding="utf-8"))):
                yield f"{path.name}:{getattr(node, 'lineno', 0)}", node

    def test_files(self):
        found = [path.name for path in PACKAGE.iterdir() if path.name != "__pycache__"]
        self.assertIn("__init__.py", found)
        for name in found:
            self.assertRegex(name, r"^(__init__|[a-z][a-z0-9_]*)\.py$")

    def test_signs_words_and_sizes(self):
        for path in sources():
            text = path.read_bytes().decode("utf-8")
            with self.subTest(path.name):
                self.assertRegex(text, r"\A[ -~\n]*\Z")
                self.assertIsNone(WORDS.search(text))
                self.assertLessEqual(len(text.splitlines()), 400)
                self.assertLessEqual(max(map(len, text.splitlines())), 120)

    def test_statements_and_expressions(self):
        for place, node in self.each_node():
            with self.subTest(place):
                self.assertNotIsInstance(node, FORBIDDEN)
                if isinstance(node, ast.Assign):
                    self.assertEqual(len(node.targets), 1)
                if isinstance(node, (ast.For, ast.While)):
                    self.assertEqual(node.orelse, [])
                if isinstance(node, ast.Constant):
                    self.assertNotIsInstance(node.value, (float, complex, bytes))
                    self.assertFalse(isinstance(node.value, str) and "%" in node.value)
                if isinstance(node, ast.BinOp) and isinstance(node.op, ast.Pow):
                    self.assertIsInstance(node.right, ast.Constant)

    def test_functions(self):
        for place, node in self.each_node():
            with self.subTest(place):
                if isinstance(node, ast.FunctionDef):
                    self.assertLessEqual(node.end_lineno - node.lineno + 1, 40)
                    self.assertEqual(node.decorator_list, [])
                    self.assertIsNone(node.returns)
                if isinstance(node, ast.arguments):
                    self.assertEqual((node.vararg, node.kwarg, node.kwonlyargs), (None, None, []))
                if isinstance(node, ast.arg):
                    self.assertIsNone(node.annotation)

    def test_imports(self):
        for place, node in self.each_node():
            if isinstance(node, ast.ImportFrom):
                with self.subTest(place):
                    self.assertEqual(node.level, 0)
                    self.assertTrue(node.module.startswith("deeprests."))
                    self.assertNotIn("*", [alias.name for alias in node.names])

    def test_locals_are_not_called_like_imports_and_classes(self):
        for path in sources():
            nodes = list(ast.walk(ast.parse(path.read_text(encoding="utf-8"))))
            taken = [name for node in nodes if isinstance(node, (ast.alias, ast.ClassDef)) for name in bound_names(node)]
            bound = [name for node in nodes if isinstance(node, (ast.Name, ast.arg)) for name in bound_names(node)]
            with self.subTest(path.name):
                self.assertEqual(len(set(taken)), len(taken))
                self.assertEqual(set(taken) & set(bound), set())

    def test_methods_of_pythons_own(self):
        own = {node.name for place, node in self.each_node() if isinstance(node, ast.FunctionDef)}
        for place, node in self.each_node():
            if isinstance(node, ast.Call) and isinstance(node.func, ast.Attribute):
                with self.subTest(place):
                    self.assertIn(node.func.attr, METHODS | own)

    def test_is_stands_beside_none_and_truths(self):
        for place, node in self.each_node():
            if isinstance(node, ast.Compare) and any(isinstance(op, (ast.Is, ast.IsNot)) for op in node.ops):
                with self.subTest(place):
                    self.assertEqual(len(node.ops), 1)
                    self.assertIsInstance(node.comparators[0], ast.Constant)
                    self.assertIn(node.comparators[0].value, (None, True, False))

    def test_names(self):
        for place, node in self.each_node():
            with self.subTest(place):
                for name in bound_names(node):
                    self.assertTrue(name in DUNDERS or not name.startswith("_"), name)
                    self.assertTrue(name in DUNDERS or not hasattr(builtins, name), name)
                if isinstance(node, ast.Name) and hasattr(builtins, node.id):
                    self.assertIn(node.id, BUILTINS)


if __name__ == "__main__":
    unittest.main()
