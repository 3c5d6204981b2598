"""Tests of the code itself: promise 1, and the rules of form that a plain reading of the files can check."""

import ast
import builtins
import doctest
import pathlib
import re
import unittest

TOP = pathlib.Path(__file__).resolve().parent.parent
PACKAGE = TOP / "caughtnames"

ALLOWED_BUILTINS = set(
    "len range enumerate zip min max sum abs sorted reversed int str bool bytes list tuple dict set frozenset "
    "isinstance ord repr any all divmod iter next super property staticmethod classmethod True False None "
    "Exception ValueError TypeError KeyError IndexError LookupError ZeroDivisionError ArithmeticError "
    "OverflowError RuntimeError NotImplementedError AttributeError StopIteration NotImplemented".split())

BARRED_WORDS = re.compile(
    r"\b(type|typing|typing_extensions|enum|Enum|IntEnum|StrEnum|Flag|IntFlag|Generic|Protocol|ABC|ABCMeta|namedtuple"
    r"|NamedTuple|TypedDict|TYPE_CHECKING|abstractmethod)\b|dataclass|overload|contextmanager")

BARRED_NAMES = {"register", "mro", "elements", "open", "input", "law", "version_info", "with_traceback", "add_note"}


def files_of_package():
    """The path, text and syntax tree of each file of the package."""
    for path in sorted(PACKAGE.rglob("*.py")):
        text = path.read_text(encoding="utf-8")
        yield path, text, ast.parse(text)


def names_of(node):
    """The names that a node of a syntax tree has or gives."""
    fields = [getattr(node, field, None) for field in ("id", "attr", "arg", "name")]
    return [field for field in fields if isinstance(field, str)]


class NothingFromOutside(unittest.TestCase):
    def test_imports_are_from_the_package(self):
        for path, text, tree in files_of_package():
            for node in ast.walk(tree):
                self.assertNotIsInstance(node, ast.Import, path)
                if isinstance(node, ast.ImportFrom):
                    self.assertEqual(node.level, 0, path)
                    self.assertRegex(node.module, r"^caughtnames\.[a-z]+$")
                    self.assertTrue((PACKAGE / (node.module.split(".")[1] + ".py")).is_file(), node.module)

    def test_builtins_are_allowed_ones(self):
        for path, text, tree in files_of_package():
            names = {node.id for node in ast.walk(tree) if isinstance(node, ast.Name)}
            self.assertEqual(sorted((names & set(dir(builtins))) - ALLOWED_BUILTINS), [], path)


class Form(unittest.TestCase):
    def test_the_package_has_files(self):
        names = [path.name for path, text, tree in files_of_package()]
        interface = (
            "errors words terms termtexts scopes values templates books booktexts expansion catches tables verdicts "
            "comparisons renames mending desk").split()
        self.assertLessEqual({"__init__.py", *[name + ".py" for name in interface]}, set(names))

    def test_characters_lines_and_words(self):
        for path, text, tree in files_of_package():
            self.assertRegex(text, r"\A[ -~\n]*\Z", path)
            self.assertIsNone(BARRED_WORDS.search(text), path)
            self.assertLessEqual(len(text.splitlines()), 399, path)
            self.assertLessEqual(max(len(line) for line in text.splitlines()), 120, path)

    def test_functions_are_short(self):
        for path, text, tree in files_of_package():
            for node in ast.walk(tree):
                if isinstance(node, ast.FunctionDef):
                    self.assertLessEqual(node.end_lineno - node.lineno + 1, 40, (path, node.name))

    def test_names(self):
        for path, text, tree in files_of_package():
            for name in [name for node in ast.walk(tree) for name in names_of(node)]:
                self.assertNotIn(name, BARRED_NAMES, path)
                self.assertRegex(name, r"^([A-Za-z][A-Za-z0-9_]*|__[a-z]+__)$", path)

    def test_strings(self):
        for path, text, tree in files_of_package():
            for node in ast.walk(tree):
                if isinstance(node, ast.Constant) and isinstance(node.value, str):
                    self.assertNotIn("%", node.value, path)


class Readme(unittest.TestCase):
    def test_examples(self):
        found = doctest.testfile(str(TOP / "README.md"), module_relative=False)
        self.assertGreater(found.attempted, 0)
        self.assertEqual(found.failed, 0)


if __name__ == "__main__":
    unittest.main()
