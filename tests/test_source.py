"""Promise 1, as far as the source shows it: no clock, chance or files; and the plain form of the files."""

import ast
import builtins
import pathlib
import re
import unittest

import goldplaces

FOLDER = pathlib.Path(goldplaces.__file__).resolve().parent

ALLOWED = set(
    "len range enumerate zip min max sum abs sorted reversed int str bool list tuple dict set frozenset "
    "isinstance ord repr any all divmod Exception ValueError TypeError KeyError IndexError LookupError "
    "ZeroDivisionError ArithmeticError OverflowError RuntimeError NotImplementedError AttributeError "
    "StopIteration".split()
)

WORDS = (
    "type typing typing_extensions enum Enum IntEnum StrEnum Flag IntFlag Generic Protocol ABC ABCMeta "
    "namedtuple NamedTuple TypedDict TYPE_CHECKING abstractmethod"
).split()

FORBIDDEN = (
    ast.With, ast.Delete, ast.Global, ast.Nonlocal, ast.Assert, ast.Yield, ast.YieldFrom, ast.AsyncFunctionDef,
    ast.Await, ast.Match, ast.NamedExpr, ast.Starred, ast.SetComp, ast.DictComp, ast.GeneratorExp, ast.Div,
    ast.Import,
)


def files():
    return sorted(path for path in FOLDER.iterdir() if path.name != "__pycache__")


def nodes(path):
    return list(ast.walk(ast.parse(path.read_text(encoding="utf-8"))))


class Source(unittest.TestCase):

    def test_only_plain_python_files(self):
        self.assertIn("__init__.py", [path.name for path in files()])
        for path in files():
            with self.subTest(path=path.name):
                self.assertTrue(path.is_file())
                self.assertRegex(path.name, r"\A([a-z][a-z0-9_]*|__init__)\.py\Z")

    def test_only_the_package_is_drawn_from(self):
        for path in files():
            for node in nodes(path):
                if isinstance(node, ast.ImportFrom):
                    with self.subTest(path=path.name, line=node.lineno):
                        self.assertEqual(node.level, 0)
                        self.assertTrue(node.module.startswith("goldplaces."))

    def test_only_allowed_names_of_python(self):
        for path in files():
            for node in nodes(path):
                if isinstance(node, ast.Name) and hasattr(builtins, node.id):
                    with self.subTest(path=path.name, line=node.lineno):
                        self.assertIn(node.id, ALLOWED)

    def test_no_forbidden_form_and_no_fraction(self):
        for path in files():
            for node in nodes(path):
                with self.subTest(path=path.name, line=getattr(node, "lineno", 0)):
                    self.assertNotIsInstance(node, FORBIDDEN)
                    if isinstance(node, ast.Constant):
                        self.assertNotIsInstance(node.value, (float, complex, bytes))
                    if isinstance(node, ast.Assign):
                        self.assertEqual(len(node.targets), 1)

    def test_size(self):
        for path in files():
            lines = path.read_text(encoding="utf-8").split("\n")
            with self.subTest(path=path.name):
                self.assertLessEqual(len(lines), 400)
                self.assertLessEqual(max(len(line) for line in lines), 120)
            for node in nodes(path):
                if isinstance(node, ast.FunctionDef):
                    with self.subTest(path=path.name, function=node.name):
                        self.assertLessEqual(node.end_lineno - node.lineno + 1, 40)

    def test_signs_and_words(self):
        for path in files():
            text = path.read_bytes().decode("ascii")
            with self.subTest(path=path.name):
                self.assertEqual([sign for sign in text if not (sign == "\n" or " " <= sign <= "~")], [])
                found = re.findall(r"[A-Za-z0-9_]+", text)
                self.assertEqual([word for word in found if word in WORDS], [])


if __name__ == "__main__":
    unittest.main()
