"""What the package's files may hold: no clock, chance or files, and the part of Python that is kept to."""

import ast
import pathlib
import re
import unittest

PACKAGE = pathlib.Path(__file__).resolve().parent.parent / "pegleap"
OWN_NAMES = set(
    "len range enumerate zip min max sum abs sorted reversed int str bool list tuple dict set frozenset isinstance "
    "ord repr any all divmod ValueError KeyError IndexError LookupError ZeroDivisionError StopIteration".split())
BUILT_INS = set(dir(__builtins__) if not isinstance(__builtins__, dict) else __builtins__)
METHODS = set("__init__ __eq__ __repr__ __str__ __len__".split())
WORDS_OUT = re.compile(
    r"\b(type|typing|typing_extensions|enum|Enum|IntEnum|StrEnum|Flag|IntFlag|Generic|Protocol|ABC|ABCMeta|namedtuple"
    r"|NamedTuple|TypedDict|TYPE_CHECKING|abstractmethod)\b|dataclass|overload|contextmanager")
NODES_OUT = (
    ast.With, ast.Match, ast.Delete, ast.Global, ast.Nonlocal, ast.Assert, ast.Yield, ast.YieldFrom, ast.Await,
    ast.AsyncFunctionDef, ast.AsyncFor, ast.AsyncWith, ast.SetComp, ast.DictComp, ast.GeneratorExp, ast.NamedExpr,
    ast.Starred, ast.Div, ast.Import, ast.AnnAssign,
)


class Package(unittest.TestCase):
    def sources(self):
        return [path.read_text(encoding="utf-8") for path in sorted(PACKAGE.glob("*.py"))]

    def nodes(self, *kinds):
        trees = [ast.parse(source) for source in self.sources()]
        return [node for tree in trees for node in ast.walk(tree) if isinstance(node, kinds)]

    def test_only_plain_files(self):
        names = sorted(path.name for path in PACKAGE.iterdir() if path.name != "__pycache__")
        self.assertIn("__init__.py", names)
        for name in names:
            self.assertRegex(name, r"^[a-z0-9_]+\.py$")

    def test_only_own_modules_are_drawn_from(self):
        for node in self.nodes(ast.ImportFrom):
            self.assertEqual(node.level, 0)
            self.assertRegex(node.module, r"^pegleap\.[a-z]+$")
            self.assertNotIn("*", [alias.name for alias in node.names])

    def test_only_listed_names_of_pythons_own(self):
        for node in self.nodes(ast.Name):
            if node.id in BUILT_INS:
                self.assertIn(node.id, OWN_NAMES)

    def test_plain_names(self):
        for node in self.nodes(ast.FunctionDef, ast.ClassDef):
            if node.name not in METHODS:
                self.assertRegex(node.name, r"^[A-Za-z][A-Za-z0-9_]*$")
            self.assertEqual(node.decorator_list, [])
        for node in self.nodes(ast.arg):
            self.assertRegex(node.arg, r"^[A-Za-z][A-Za-z0-9_]*$")
            self.assertNotIn(node.arg, BUILT_INS)

    def test_no_form_that_is_out(self):
        self.assertEqual([ast.dump(node) for node in self.nodes(*NODES_OUT)], [])
        for node in self.nodes(ast.For, ast.While):
            self.assertEqual(node.orelse, [])
        for node in self.nodes(ast.Constant):
            self.assertNotIsInstance(node.value, (float, bytes, complex))

    def test_sizes(self):
        for node in self.nodes(ast.FunctionDef):
            self.assertLessEqual(node.end_lineno - node.lineno + 1, 40)
        for source in self.sources():
            lines = source.split("\n")
            self.assertLessEqual(len(lines), 401)
            self.assertLessEqual(max(len(line) for line in lines), 120)

    def test_signs_and_words(self):
        for source in self.sources():
            self.assertRegex(source, r"\A[ -~\n]*\Z")
            self.assertIsNone(WORDS_OUT.search(source))


if __name__ == "__main__":
    unittest.main()
