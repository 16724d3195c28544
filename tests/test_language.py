"""Point 2 (no clock, chance or files), and those rules of LANGUAGE.md that a look at the files can see."""

import ast
import builtins
import pathlib
import re
import unittest

PACKAGE = pathlib.Path(__file__).resolve().parent.parent / "leastasked"

# L8
OWN_NAMES = set("""len range enumerate zip min max sum abs sorted reversed int str bool list tuple dict set frozenset
    isinstance ord repr any all divmod Exception ValueError TypeError KeyError IndexError LookupError
    ZeroDivisionError ArithmeticError OverflowError RuntimeError NotImplementedError AttributeError
    StopIteration""".split())
TWO_UNDERSCORES = {"__init__", "__eq__", "__repr__", "__str__", "__len__"}
# L17
WORDS = re.compile(r"\b(type|typing|typing_extensions|enum|Enum|IntEnum|StrEnum|Flag|IntFlag|Generic|Protocol|ABC|"
                   r"ABCMeta|namedtuple|NamedTuple|TypedDict|TYPE_CHECKING|abstractmethod)\b|"
                   r"dataclass|overload|contextmanager")
# L4 to L7
RULED_OUT = (ast.With, ast.Match, ast.Delete, ast.Global, ast.Nonlocal, ast.Assert, ast.Yield, ast.YieldFrom,
             ast.AsyncFunctionDef, ast.AsyncFor, ast.AsyncWith, ast.Await, ast.Import, ast.SetComp, ast.DictComp,
             ast.GeneratorExp, ast.NamedExpr, ast.Starred, ast.Div, ast.MatMult, ast.AnnAssign)


def files():
    return sorted(path for path in PACKAGE.iterdir() if path.name != "__pycache__")


def nodes():
    for path in files():
        for node in ast.walk(ast.parse(path.read_text(encoding="utf-8"))):
            yield path.name, node


def names_of(node):
    if isinstance(node, ast.Name):
        return [node.id]
    if isinstance(node, ast.Attribute):
        return [node.attr]
    if isinstance(node, ast.arg):
        return [node.arg]
    if isinstance(node, (ast.FunctionDef, ast.ClassDef)):
        return [node.name]
    return []


class Language(unittest.TestCase):
    def test_there_is_something_to_look_at(self):
        self.assertLessEqual({"__init__.py", "errors.py", "rules.py"}, {path.name for path in files()})

    def test_files_signs_and_sizes(self):
        for path in files():
            text = path.read_text(encoding="utf-8")
            with self.subTest(file=path.name):
                self.assertRegex(path.name, r"^[a-z0-9_]+\.py$")
                self.assertRegex(text, r"\A[ -~\n]*\Z")
                self.assertIsNone(WORDS.search(text))
                self.assertLessEqual(len(text.splitlines()), 400)
                self.assertLessEqual(max(len(line) for line in text.splitlines()), 120)

    def test_imports_are_the_packages_own(self):
        for file, node in nodes():
            if isinstance(node, ast.ImportFrom):
                with self.subTest(file=file, line=node.lineno):
                    self.assertEqual(node.level, 0)
                    self.assertTrue(node.module.startswith("leastasked."))
                    self.assertNotIn("*", [alias.name for alias in node.names])

    def test_names_of_pythons_own_are_those_allowed(self):
        outside = set(dir(builtins)) - OWN_NAMES
        for file, node in nodes():
            if isinstance(node, ast.Name):
                with self.subTest(file=file, line=node.lineno):
                    self.assertNotIn(node.id, outside)

    def test_names_are_plain(self):
        for file, node in nodes():
            for name in names_of(node):
                with self.subTest(file=file, line=node.lineno, name=name):
                    self.assertTrue(name in TWO_UNDERSCORES or re.fullmatch(r"[A-Za-z][A-Za-z0-9_]*", name))

    def test_statements_and_values_are_those_allowed(self):
        for file, node in nodes():
            with self.subTest(file=file, node=ast.dump(node)[:80]):
                self.assertNotIsInstance(node, RULED_OUT)
                if isinstance(node, ast.Constant):
                    self.assertNotIsInstance(node.value, (float, complex, bytes))
                if isinstance(node, (ast.For, ast.While)):
                    self.assertEqual(node.orelse, [])
                if isinstance(node, ast.Try):
                    self.assertEqual(node.finalbody, [])
                if isinstance(node, ast.Assign):
                    self.assertEqual(len(node.targets), 1)

    def test_functions_are_small_and_plain(self):
        for file, node in nodes():
            if isinstance(node, ast.FunctionDef):
                with self.subTest(file=file, function=node.name):
                    self.assertLessEqual(node.end_lineno - node.lineno + 1, 40)
                    self.assertEqual(node.decorator_list, [])
                    self.assertIsNone(node.args.vararg)
                    self.assertIsNone(node.args.kwarg)
                    self.assertEqual(node.args.kwonlyargs, [])


if __name__ == "__main__":
    unittest.main()
