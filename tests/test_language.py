"""Point 2 (no clock, chance or files), and those rules of LANGUAGE.md that a look at the files can see."""

import ast
import builtins
import pathlib
import re
import unittest

PACKAGE = pathlib.Path(__file__).resolve().parent.parent / "leastasked"

# L8
OWN_NAMES = set("""len range enumerate zip min max sum abs sorted reversed int str bool list tuple dict set frozenset
    isinstance ord repr any all divmod Exception ValueError TypeError KeyError IndexError LookupError
    ZeroDivisionError ArithmeticError OverflowError RuntimeError NotImplementedError AttributeError
    StopIteration""".split())
TWO_UNDERSCORES = {"__init__", "__eq__", "__repr__", "__str__", "__len__"}
# L17
WORDS = re.compile(r"\b(type|typing|typing_extensions|enum|Enum|IntEnum|StrEnum|Flag|IntFlag|Generic|Protocol|ABC|"
                   r"ABCMeta|namedtuple|NamedTuple|TypedDict|TYPE_CHECKING|abstractmethod)\b|"
                   r"dataclass|overload|contextmanager")
# L25
METHODS = set("""append clear copy count endswith extend find get index insert isalnum isalpha isdigit islower isspace
    isupper items join keys ljust lower lstrip partition pop remove replace reverse rfind rjust rpartition rsplit
    rstrip setdefault split splitlines startswith strip update upper values zfill bit_length""".split())
# L4 to L7
RULED_OUT = (ast.With, ast.Match, ast.Delete, ast.Global, ast.Nonlocal, ast.Assert, ast.Yield, ast.YieldFrom,
             ast.AsyncFunctionDef, ast.AsyncFor, ast.AsyncWith, ast.Await, ast.Import, ast.SetComp, ast.DictComp,
             ast.GeneratorExp, ast.NamedExpr, ast.Starred, ast.Div, ast.MatMult, ast.AnnAssign)


def files():
    return sorted(path for path in PACKAGE.iterdir() if path.name != "__pycache__")


def nodes():
    for path in files():
        for node in ast.walk(ast.parse(path.read_text(encoding="utf-8"))):
            yield path.name, node


def names_of(node):
    if isinstance(node, ast.Name):
        return [node.id]
    if isinstance(node, ast.Attribute):
        return [node.attr]
    if isinstance(node, ast.arg):
        return [node.arg]
    if isinstance(node, (ast.FunctionDef, ast.ClassDef)):
        return [node.name]
    return []


def own_methods():
    return {inner.name for file, node in nodes() if isinstance(node, ast.ClassDef)
            for inner in node.body if isinstance(inner, ast.FunctionDef)}


def top_names(tree):
    """The classes and imports of a file."""
    found = {node.name for node in tree.body if isinstance(node, ast.ClassDef)}
    for node in tree.body:
        if isinstance(node, ast.ImportFrom):
            found |= {alias.asname or alias.name for alias in node.names}
    return found


def bound_names(tree):
    """The parameters and locals of a file's functions."""
    return {node.arg for node in ast.walk(tree) if isinstance(node, ast.arg)} | {
        node.id for node in ast.walk(tree) if isinstance(node, ast.Name) and isinstance(node.ctx, ast.Store)}


class Language(unittest.TestCase):
    def test_there_is_something_to_look_at(self):
        self.assertLessEqual({"__init__.py", "errors.py", "rules.py", "book.py", "shelf.py", "row.py"},
                             {path.name for path in files()})

    def test_files_signs_and_sizes(self):
        for path in files():
            text = path.read_text(encoding="utf-8")
            with self.subTest(file=path.name):
                self.assertRegex(path.name, r"^[a-z0-9_]+\.py$")
                self.assertRegex(text, r"\A[ -~\n]*\Z")
                self.assertIsNone(WORDS.search(text))
                self.assertLessEqual(len(text.splitlines()), 400)
                self.assertLessEqual(max(len(line) for line in text.splitlines()), 120)

    def test_imports_are_the_packages_own(self):
        for file, node in nodes():
            if isinstance(node, ast.ImportFrom):
                with self.subTest(file=file, line=node.lineno):
                    self.assertEqual(node.level, 0)
                    self.assertTrue(node.module.startswith("leastasked."))
                    self.assertNotIn("*", [alias.name for alias in node.names])

    def test_names_of_pythons_own_are_those_allowed(self):
        outside = set(dir(builtins)) - OWN_NAMES
        for file, node in nodes():
            if isinstance(node, ast.Name):
                with self.subTest(file=file, line=node.lineno):
                    self.assertNotIn(node.id, outside)

    def test_names_are_plain(self):
        for file, node in nodes():
            for name in names_of(node):
                with self.subTest(file=file, line=node.lineno, name=name):
                    self.assertTrue(name in TWO_UNDERSCORES or re.fullmatch(r"[A-Za-z][A-Za-z0-9_]*", name))

    def test_statements_and_values_are_those_allowed(self):
        for file, node in nodes():
            with self.subTest(file=file, node=ast.dump(node)[:80]):
                self.assertNotIsInstance(node, RULED_OUT)
                if isinstance(node, ast.Constant):
                    self.assertNotIsInstance(node.value, (float, complex, bytes))
                if isinstance(node, (ast.For, ast.While)):
                    self.assertEqual(node.orelse, [])
                if isinstance(node, ast.Try):
                    self.assertEqual(node.finalbody, [])
                if isinstance(node, ast.Assign):
                    self.assertEqual(len(node.targets), 1)

    def test_functions_are_small_and_plain(self):
        for file, node in nodes():
            if isinstance(node, ast.FunctionDef):
                with self.subTest(file=file, function=node.name):
                    self.assertLessEqual(node.end_lineno - node.lineno + 1, 40)
                    self.assertEqual(node.decorator_list, [])
                    self.assertIsNone(node.args.vararg)
                    self.assertIsNone(node.args.kwarg)
                    self.assertEqual(node.args.kwonlyargs, [])

    def test_methods_called_are_those_allowed_and_the_packages_own(self):
        allowed = METHODS | own_methods()
        for file, node in nodes():
            if isinstance(node, ast.Call) and isinstance(node.func, ast.Attribute):
                with self.subTest(file=file, line=node.lineno):
                    self.assertIn(node.func.attr, allowed)

    def test_no_name_is_a_method_and_a_value(self):
        given = {node.attr for file, node in nodes() if isinstance(node, ast.Attribute)
                 and isinstance(node.ctx, ast.Store)}
        self.assertEqual(given & (own_methods() | METHODS), set())

    def test_parameters_and_locals_hide_nothing(self):
        for path in files():
            tree = ast.parse(path.read_text(encoding="utf-8"))
            with self.subTest(file=path.name):
                self.assertEqual(bound_names(tree) & (top_names(tree) | set(dir(builtins))), set())

    def test_tops_and_classes_hold_what_is_allowed(self):
        for file, node in nodes():
            if isinstance(node, (ast.Module, ast.ClassDef)):
                body = node.body[1:] if ast.get_docstring(node) else node.body
                kinds = (ast.ImportFrom, ast.FunctionDef, ast.ClassDef) if isinstance(node, ast.Module) else (
                    ast.FunctionDef, ast.Pass)
                with self.subTest(file=file):
                    self.assertTrue(all(isinstance(inner, kinds) for inner in body))

    def test_is_stands_beside_none_true_and_false_alone(self):
        for file, node in nodes():
            if isinstance(node, ast.Compare) and isinstance(node.ops[0], (ast.Is, ast.IsNot)):
                with self.subTest(file=file, line=node.lineno):
                    self.assertIsInstance(node.comparators[0], ast.Constant)
                    self.assertIn(node.comparators[0].value, (None, True, False))


if __name__ == "__main__":
    unittest.main()
