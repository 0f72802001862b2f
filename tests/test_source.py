"""Promise 1, as far as the source shows it: no clock, chance or files; and the plain form of the files."""

import ast
import builtins
import pathlib
import re
import unittest

import goldplaces

FOLDER = pathlib.Path(goldplaces.__file__).resolve().parent

ALLOWED = set(
    "len range enumerate zip min max sum abs sorted reversed int str bool list tuple dict set frozenset "
    "isinstance ord repr any all divmod Exception ValueError TypeError KeyError IndexError LookupError "
    "ZeroDivisionError ArithmeticError OverflowError RuntimeError NotImplementedError AttributeError "
    "StopIteration".split()
)

WORDS = (
    "type typing typing_extensions enum Enum IntEnum StrEnum Flag IntFlag Generic Protocol ABC ABCMeta "
    "namedtuple NamedTuple TypedDict TYPE_CHECKING abstractmethod"
).split()

METHODS = (
    "append clear copy count endswith extend find get index insert isalnum isalpha isdigit islower isspace isupper "
    "items join keys ljust lower lstrip partition pop remove replace reverse rfind rjust rpartition rsplit rstrip "
    "setdefault split splitlines startswith strip update upper values zfill bit_length"
).split()

FORBIDDEN = (
    ast.With, ast.Delete, ast.Global, ast.Nonlocal, ast.Assert, ast.Yield, ast.YieldFrom, ast.AsyncFunctionDef,
    ast.Await, ast.Match, ast.NamedExpr, ast.Starred, ast.SetComp, ast.DictComp, ast.GeneratorExp, ast.Div,
    ast.Import,
)


def files():
    return sorted(path for path in FOLDER.iterdir() if path.name != "__pycache__")


def nodes(path):
    return list(ast.walk(ast.parse(path.read_text(encoding="utf-8"))))


def bound_by(node):
    """The names that one node binds, imports aside."""
    if isinstance(node, (ast.FunctionDef, ast.ClassDef)):
        return [node.name]
    if isinstance(node, ast.arg):
        return [node.arg]
    if isinstance(node, ast.Name) and isinstance(node.ctx, ast.Store):
        return [node.id]
    return []


def bound_at_the_top(body):
    names = []
    for node in body:
        names += bound_by(node)
        for target in getattr(node, "targets", []):
            names += bound_by(target)
    return names


def reached(drawn, stem):
    """The files that one draws from, in whatever many steps."""
    found = []
    waiting = list(drawn[stem])
    while waiting:
        another = waiting.pop()
        if another not in found:
            found.append(another)
            waiting += drawn[another]
    return found


class Source(unittest.TestCase):

    def test_only_plain_python_files(self):
        self.assertIn("__init__.py", [path.name for path in files()])
        for path in files():
            with self.subTest(path=path.name):
                self.assertTrue(path.is_file())
                self.assertRegex(path.name, r"\A([a-z][a-z0-9_]*|__init__)\.py\Z")

    def test_only_the_package_is_drawn_from(self):
        for path in files():
            for node in nodes(path):
                if isinstance(node, ast.ImportFrom):
                    with self.subTest(path=path.name, line=node.lineno):
                        self.assertEqual(node.level, 0)
                        self.assertTrue(node.module.startswith("goldplaces."))

    def test_only_allowed_names_of_python(self):
        for path in files():
            for node in nodes(path):
                if isinstance(node, ast.Name) and hasattr(builtins, node.id):
                    with self.subTest(path=path.name, line=node.lineno):
                        self.assertIn(node.id, ALLOWED)

    def test_each_import_is_from_the_file_that_defines_the_name(self):
        tops = {path.stem: ast.parse(path.read_text(encoding="utf-8")).body for path in files()}
        drawn = {}
        for stem, body in tops.items():
            rows = [node for node in body if isinstance(node, ast.ImportFrom)]
            drawn[stem] = [row.module.removeprefix("goldplaces.") for row in rows]
            for row in rows:
                defined = bound_at_the_top(tops[row.module.removeprefix("goldplaces.")])
                for name in row.names:
                    with self.subTest(path=stem, name=name.name):
                        self.assertIn(name.name, defined)
                        self.assertIs(name.asname, None)
        for stem in drawn:
            with self.subTest(path=stem):
                self.assertNotIn(stem, reached(drawn, stem))

    def test_each_import_is_used(self):
        for path in files():
            found = nodes(path)
            used = [node.id for node in found if isinstance(node, ast.Name)]
            for node in found:
                if isinstance(node, ast.ImportFrom):
                    for name in node.names:
                        with self.subTest(path=path.name, name=name.name):
                            self.assertIn(name.name, used)

    def test_each_name_is_plain_and_hides_none(self):
        for path in files():
            found = nodes(path)
            taken = set(dir(builtins))
            for node in found:
                if isinstance(node, ast.ImportFrom):
                    taken.update(name.name for name in node.names)
            for node in found:
                for name in bound_by(node):
                    with self.subTest(path=path.name, name=name):
                        self.assertRegex(name, r"\A[A-Za-z][A-Za-z0-9_]*\Z")
                        self.assertNotIn(name, taken)

    def test_each_name_of_the_top_is_bound_once(self):
        for path in files():
            names = bound_at_the_top(ast.parse(path.read_text(encoding="utf-8")).body)
            with self.subTest(path=path.name):
                self.assertEqual(len(names), len(set(names)))

    def test_functions_loops_and_comprehensions_are_plain(self):
        for path in files():
            for node in nodes(path):
                with self.subTest(path=path.name, line=getattr(node, "lineno", 0)):
                    if isinstance(node, (ast.FunctionDef, ast.ClassDef)):
                        self.assertEqual(node.decorator_list, [])
                    if isinstance(node, ast.arguments):
                        self.assertEqual((node.vararg, node.kwarg), (None, None))
                        self.assertEqual((node.kwonlyargs, node.posonlyargs), ([], []))
                    if isinstance(node, (ast.For, ast.While)):
                        self.assertEqual(node.orelse, [])
                    if isinstance(node, ast.ListComp):
                        self.assertEqual(len(node.generators), 1)
                        self.assertLessEqual(len(node.generators[0].ifs), 1)
                    if isinstance(node, ast.Try):
                        self.assertEqual(node.finalbody, [])

    def test_methods_texts_and_powers(self):
        for path in files():
            for node in nodes(path):
                with self.subTest(path=path.name, line=getattr(node, "lineno", 0)):
                    if isinstance(node, ast.Call) and isinstance(node.func, ast.Attribute):
                        self.assertIn(node.func.attr, METHODS)
                    if isinstance(node, ast.Constant) and isinstance(node.value, str):
                        self.assertNotIn("%", node.value)
                    if isinstance(node, ast.BinOp) and isinstance(node.op, ast.Pow):
                        self.assertIsInstance(node.right, ast.Constant)

    def test_no_forbidden_form_and_no_fraction(self):
        for path in files():
            for node in nodes(path):
                with self.subTest(path=path.name, line=getattr(node, "lineno", 0)):
                    self.assertNotIsInstance(node, FORBIDDEN)
                    if isinstance(node, ast.Constant):
                        self.assertNotIsInstance(node.value, (float, complex, bytes))
                    if isinstance(node, ast.Assign):
                        self.assertEqual(len(node.targets), 1)

    def test_size(self):
        for path in files():
            lines = path.read_text(encoding="utf-8").split("\n")
            with self.subTest(path=path.name):
                self.assertLessEqual(len(lines), 400)
                self.assertLessEqual(max(len(line) for line in lines), 120)
            for node in nodes(path):
                if isinstance(node, ast.FunctionDef):
                    with self.subTest(path=path.name, function=node.name):
                        self.assertLessEqual(node.end_lineno - node.lineno + 1, 40)

    def test_signs_and_words(self):
        for path in files():
            text = path.read_bytes().decode("ascii")
            with self.subTest(path=path.name):
                self.assertEqual([sign for sign in text if not (sign == "\n" or " " <= sign <= "~")], [])
                found = re.findall(r"[A-Za-z0-9_]+", text)
                self.assertEqual([word for word in found if word in WORDS], [])


if __name__ == "__main__":
    unittest.main()
