"""Those rules of LANGUAGE.md that a look at the files can check."""

import ast
import builtins
import pathlib
import re
import unittest

import pressrelease

PACKAGE = pathlib.Path(pressrelease.__file__).parent
BARRED = re.compile(
    r"\b(type|typing|typing_extensions|enum|Enum|IntEnum|StrEnum|Flag|IntFlag|Generic|Protocol"
    r"|ABC|ABCMeta|namedtuple|NamedTuple|TypedDict|TYPE_CHECKING|abstractmethod)\b"
    r"|dataclass|overload|contextmanager"
)
FUNCTIONS = (ast.FunctionDef, ast.AsyncFunctionDef)
BUILTINS = set(
    "len range enumerate zip min max sum abs sorted reversed int str bool bytes list tuple dict set"
    " isinstance ord repr any all divmod Exception ValueError TypeError KeyError IndexError"
    " LookupError".split()
)


def sources():
    return {path.name: path.read_text("ascii") for path in sorted(PACKAGE.glob("*.py"))}


def given_names(node):
    """The names that this node itself gives to something."""
    if isinstance(node, FUNCTIONS + (ast.ClassDef,)):
        return [node.name]
    if isinstance(node, ast.arg):
        return [node.arg]
    if isinstance(node, ast.Name) and not isinstance(node.ctx, ast.Load):
        return [node.id]
    return []


class LanguageTest(unittest.TestCase):
    def test_folder_contains_only_modules(self):
        for path in PACKAGE.iterdir():
            if path.name != "__pycache__":
                self.assertRegex(path.name, r"\A[a-z0-9_]+\.py\Z")

    def test_sizes_and_characters(self):
        for name, text in sources().items():
            self.assertRegex(text, r"\A[ -~\n]*\Z", name)
            self.assertLessEqual(len(text.splitlines()), 399, name)
            self.assertLessEqual(max(map(len, text.splitlines())), 120, name)

    def test_barred_words(self):
        for name, text in sources().items():
            self.assertIsNone(BARRED.search(text), name)

    def test_functions_are_short(self):
        for name, text in sources().items():
            for node in ast.walk(ast.parse(text)):
                if isinstance(node, FUNCTIONS):
                    self.assertLessEqual(node.end_lineno - node.lineno + 1, 40, (name, node.name))

    def test_imports(self):
        for name, text in sources().items():
            for node in ast.walk(ast.parse(text)):
                self.assertNotIsInstance(node, (ast.Import, ast.Global), name)
                if isinstance(node, ast.ImportFrom):
                    self.assertEqual(node.level, 0, name)
                    self.assertRegex(node.module, r"\Apressrelease\.[a-z0-9_]+\Z", name)

    def test_names(self):
        for name, text in sources().items():
            for node in ast.walk(ast.parse(text)):
                if isinstance(node, ast.Name) and hasattr(builtins, node.id):
                    self.assertIsInstance(node.ctx, ast.Load, (name, node.id))
                    self.assertIn(node.id, BUILTINS, name)
                for given in given_names(node):
                    if given != "__init__":
                        self.assertRegex(given, r"\A[a-zA-Z]", name)
                        self.assertFalse(hasattr(builtins, given), (name, given))

    def test_lists_in_place_of_generator_expressions(self):
        # Needed as soon as a class of the package, such as a desk, has an equality of its own.
        for name, text in sources().items():
            for node in ast.walk(ast.parse(text)):
                if isinstance(node, ast.Call) and isinstance(node.func, ast.Name):
                    if node.func.id in ("any", "all", "min", "max", "sum", "sorted"):
                        self.assertNotIsInstance(node.args[0], ast.GeneratorExp, name)

    def test_numbers(self):
        for name, text in sources().items():
            self.assertNotIn("%", text, name)
            for node in ast.walk(ast.parse(text)):
                self.assertNotIsInstance(node, (ast.Div, ast.Pow), name)
                if isinstance(node, ast.Constant):
                    self.assertNotIsInstance(node.value, (float, complex), name)

    def test_no_imports_in_a_circle(self):
        above = {
            name[:-3]: set(re.findall(r"^from pressrelease\.([a-z0-9_]+) import", text, re.M))
            for name, text in sources().items()
        }
        while above:
            free = [name for name in above if not above[name]]
            self.assertTrue(free, above)
            above = {name: above[name] - set(free) for name in above if name not in free}
