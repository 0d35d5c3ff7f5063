"""Those rules of LANGUAGE.md that a look at the files can check."""

import ast
import builtins
import pathlib
import re
import unittest

import pressrelease

PACKAGE = pathlib.Path(pressrelease.__file__).parent
BARRED = re.compile(
    r"\b(type|typing|typing_extensions|enum|Enum|IntEnum|StrEnum|Flag|IntFlag|Generic|Protocol"
    r"|ABC|ABCMeta|namedtuple|NamedTuple|TypedDict|TYPE_CHECKING|abstractmethod)\b"
    r"|dataclass|overload|contextmanager"
)
FUNCTIONS = (ast.FunctionDef, ast.AsyncFunctionDef)
BUILTINS = set(
    "len range enumerate zip min max sum abs sorted reversed int str bool bytes list tuple dict set"
    " isinstance ord repr any all divmod Exception ValueError TypeError KeyError IndexError"
    " LookupError super classmethod".split()
)
DOUBLE = ("__init__", "__eq__", "__len__", "__str__")
# The methods of L25 that the package may call on strings, lists and dicts.
METHODS = set(
    "append clear copy count endswith extend find get index insert isalnum isalpha isdigit islower"
    " isspace isupper items join keys ljust lower lstrip partition pop remove replace reverse rfind"
    " rjust rpartition rsplit rstrip setdefault split splitlines startswith strip update upper"
    " values zfill bit_length isascii removeprefix removesuffix".split()
)
ATTRIBUTES = set("count index title find get join lower upper split strip copy add".split())
BUILTIN_NAMES = set().union(*map(dir, (str, int, list, dict, set, bytes, tuple)))


def sources():
    return {path.name: path.read_text("ascii") for path in sorted(PACKAGE.glob("*.py"))}


def trees():
    return {name: ast.parse(text) for name, text in sources().items()}


def nodes(*kinds):
    """All nodes of these kinds in the package, each with the name of its file."""
    for name, tree in trees().items():
        for node in ast.walk(tree):
            if isinstance(node, kinds):
                yield name, node


def own_methods():
    return {
        part.name for name, node in nodes(ast.ClassDef)
        for part in node.body if isinstance(part, FUNCTIONS)
    }


def own_attributes():
    """The attributes that are assigned anywhere."""
    return {
        node.attr for name, node in nodes(ast.Attribute) if isinstance(node.ctx, ast.Store)
    }


def file_names(tree):
    """The names that a file has at module level by imports and classes."""
    names = {node.name for node in tree.body if isinstance(node, ast.ClassDef)}
    for node in tree.body:
        if isinstance(node, ast.ImportFrom):
            names |= {part.asname or part.name for part in node.names}
    return names


def is_simple(node):
    """What L6 calls SIMPLE, as far as it is used here."""
    if isinstance(node, ast.Tuple):
        return all(map(is_simple, node.elts))
    return isinstance(node, (ast.Name, ast.Attribute, ast.Constant))


def given_names(node):
    """The names that this node itself gives to something."""
    if isinstance(node, FUNCTIONS + (ast.ClassDef,)):
        return [node.name]
    if isinstance(node, ast.arg):
        return [node.arg]
    if isinstance(node, ast.Name) and not isinstance(node.ctx, ast.Load):
        return [node.id]
    return []


class LanguageTest(unittest.TestCase):
    def test_folder_contains_only_modules(self):
        for path in PACKAGE.iterdir():
            if path.name != "__pycache__":
                self.assertRegex(path.name, r"\A[a-z0-9_]+\.py\Z")

    def test_sizes_and_characters(self):
        for name, text in sources().items():
            self.assertRegex(text, r"\A[ -~\n]*\Z", name)
            self.assertLessEqual(len(text.splitlines()), 399, name)
            self.assertLessEqual(max(map(len, text.splitlines())), 120, name)

    def test_barred_words(self):
        for name, text in sources().items():
            self.assertIsNone(BARRED.search(text), name)

    def test_functions_are_short(self):
        for name, text in sources().items():
            for node in ast.walk(ast.parse(text)):
                if isinstance(node, FUNCTIONS):
                    self.assertLessEqual(node.end_lineno - node.lineno + 1, 40, (name, node.name))

    def test_imports(self):
        for name, text in sources().items():
            for node in ast.walk(ast.parse(text)):
                self.assertNotIsInstance(node, (ast.Import, ast.Global), name)
                if isinstance(node, ast.ImportFrom):
                    self.assertEqual(node.level, 0, name)
                    self.assertRegex(node.module, r"\Apressrelease\.[a-z0-9_]+\Z", name)

    def test_names(self):
        for name, text in sources().items():
            for node in ast.walk(ast.parse(text)):
                if isinstance(node, ast.Name) and hasattr(builtins, node.id):
                    self.assertIsInstance(node.ctx, ast.Load, (name, node.id))
                    self.assertIn(node.id, BUILTINS, name)
                for given in given_names(node):
                    if given not in DOUBLE:
                        self.assertRegex(given, r"\A[a-zA-Z]", name)
                        self.assertFalse(hasattr(builtins, given), (name, given))

    def test_lists_in_place_of_generator_expressions(self):
        # Needed as soon as a class of the package, such as a desk, has an equality of its own.
        for name, text in sources().items():
            for node in ast.walk(ast.parse(text)):
                if isinstance(node, ast.Call) and isinstance(node.func, ast.Name):
                    if node.func.id in ("any", "all", "min", "max", "sum", "sorted"):
                        self.assertNotIsInstance(node.args[0], ast.GeneratorExp, name)

    def test_numbers(self):
        for name, text in sources().items():
            self.assertNotIn("%", text, name)
            for node in ast.walk(ast.parse(text)):
                self.assertNotIsInstance(node, (ast.Div, ast.Pow), name)
                if isinstance(node, ast.Constant):
                    self.assertNotIsInstance(node.value, (float, complex), name)

    def test_no_imports_in_a_circle(self):
        above = {
            name[:-3]: set(re.findall(r"^from pressrelease\.([a-z0-9_]+) import", text, re.M))
            for name, text in sources().items()
        }
        while above:
            free = [name for name in above if not above[name]]
            self.assertTrue(free, above)
            above = {name: above[name] - set(free) for name in above if name not in free}

    def test_is(self):
        for name, node in nodes(ast.Compare):
            for sign, right in zip(node.ops, node.comparators):
                if isinstance(sign, (ast.Is, ast.IsNot)):
                    self.assertIsInstance(right, ast.Constant, name)
                    self.assertIn(right.value, (None, True, False), name)

    def test_methods_and_attributes(self):
        methods, attributes = own_methods(), own_attributes()
        self.assertEqual(methods & attributes, set())
        for method in methods - set(DOUBLE):
            self.assertNotIn(method, BUILTIN_NAMES)
        for attribute in attributes - ATTRIBUTES:
            self.assertNotIn(attribute, BUILTIN_NAMES)
        for name, node in nodes(ast.Call):
            if isinstance(node.func, ast.Attribute):
                self.assertIn(node.func.attr, methods | METHODS, name)

    def test_names_of_imports_and_classes_are_not_used_again(self):
        for name, tree in trees().items():
            taken = file_names(tree)
            for node in ast.walk(tree):
                if isinstance(node, (ast.arg, ast.Name)):
                    self.assertEqual(taken & set(given_names(node)), set(), name)

    def test_class_values_are_written_out(self):
        for name, node in nodes(ast.ClassDef):
            for part in node.body:
                if isinstance(part, ast.Assign):
                    self.assertIsInstance(part.value, ast.Constant, name)
                    self.assertNotIn(part.targets[0].id, own_methods() | own_attributes())

    def test_decorators(self):
        for name, node in nodes(ast.ClassDef, *FUNCTIONS):
            for decorator in node.decorator_list:
                self.assertEqual(ast.unparse(decorator), "classmethod", name)

    def test_own_errors_are_caught(self):
        own = {node.name for name, node in nodes(ast.ClassDef) if name == "errors.py"}
        for name, node in nodes(ast.ExceptHandler):
            self.assertIsNotNone(node.type, name)
            caught = node.type.elts if isinstance(node.type, ast.Tuple) else [node.type]
            self.assertLessEqual({error.id for error in caught}, own, name)
        for name, node in nodes(ast.Raise):
            self.assertIsInstance(node.exc, ast.Call, name)
            self.assertIn(node.exc.func.id, own, name)

    def test_finally(self):
        for name, node in nodes(ast.Try):
            for row in node.finalbody:
                for part in ast.walk(row):
                    if isinstance(part, ast.stmt):
                        self.assertIsInstance(part, (ast.Assign, ast.If, ast.Pass), name)
                    if isinstance(part, ast.Assign):
                        self.assertEqual(len(part.targets), 1, name)
                        self.assertTrue(is_simple(part.value), name)
                    if isinstance(part, ast.If):
                        self.assertRegex(ast.unparse(part.test), r"\A[a-z.]+ is (not )?None\Z")

    def test_generators(self):
        makers = set()
        for name, node in nodes(*FUNCTIONS):
            if any(isinstance(part, ast.Yield) for part in ast.walk(node)):
                makers.add(node.name)
                for part in ast.walk(node):
                    self.assertNotIsInstance(part, (ast.Try, ast.With), name)
        self.assertEqual(makers, {"walk"})
        self.assertEqual([node.name for name, node in nodes(*FUNCTIONS)].count("walk"), 1)
        for name, node in nodes(ast.Attribute):
            self.assertNotEqual(node.attr, "walk", name)

    def test_sets_and_lists_are_not_sorted_in_place(self):
        for name, node in nodes(ast.Attribute):
            self.assertNotIn(node.attr, ("sort", "format", "mro", "args"), name)

    def test_super(self):
        for name, node in nodes(ast.Name):
            if node.id == "super":
                self.assertEqual(name, "desks.py")
        for name, node in nodes(ast.Attribute):
            if isinstance(node.value, ast.Call) and ast.unparse(node.value) == "super()":
                self.assertIn(node.attr, own_methods() - set(DOUBLE), name)
