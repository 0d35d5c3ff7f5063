"""Those rules of LANGUAGE.md that a look at the files can check."""

import ast
import pathlib
import re
import unittest

import pressrelease

PACKAGE = pathlib.Path(pressrelease.__file__).parent
BARRED = re.compile(
    r"\b(type|typing|typing_extensions|enum|Enum|IntEnum|StrEnum|Flag|IntFlag|Generic|Protocol"
    r"|ABC|ABCMeta|namedtuple|NamedTuple|TypedDict|TYPE_CHECKING|abstractmethod)\b"
    r"|dataclass|overload|contextmanager"
)
FUNCTIONS = (ast.FunctionDef, ast.AsyncFunctionDef)


def sources():
    return {path.name: path.read_text("ascii") for path in sorted(PACKAGE.glob("*.py"))}


class LanguageTest(unittest.TestCase):
    def test_folder_contains_only_modules(self):
        for path in PACKAGE.iterdir():
            if path.name != "__pycache__":
                self.assertRegex(path.name, r"\A[a-z0-9_]+\.py\Z")

    def test_sizes_and_characters(self):
        for name, text in sources().items():
            self.assertRegex(text, r"\A[ -~\n]*\Z", name)
            self.assertLessEqual(len(text.splitlines()), 399, name)
            self.assertLessEqual(max(map(len, text.splitlines())), 120, name)

    def test_barred_words(self):
        for name, text in sources().items():
            self.assertIsNone(BARRED.search(text), name)

    def test_functions_are_short(self):
        for name, text in sources().items():
            for node in ast.walk(ast.parse(text)):
                if isinstance(node, FUNCTIONS):
                    self.assertLessEqual(node.end_lineno - node.lineno + 1, 40, (name, node.name))

    def test_imports(self):
        for name, text in sources().items():
            for node in ast.walk(ast.parse(text)):
                self.assertNotIsInstance(node, (ast.Import, ast.Global), name)
                if isinstance(node, ast.ImportFrom):
                    self.assertEqual(node.level, 0, name)
                    self.assertRegex(node.module, r"\Apressrelease\.[a-z0-9_]+\Z", name)
