"""What the package's files may hold: no clock, chance or files, and the part of Python that is kept to."""

import ast
import pathlib
import re
import unittest

PACKAGE = pathlib.Path(__file__).resolve().parent.parent / "pegleap"
OWN_NAMES = set(
    "len range enumerate zip min max sum abs sorted reversed int str bool list tuple dict set frozenset isinstance "
    "ord repr any all divmod ValueError KeyError IndexError LookupError ZeroDivisionError StopIteration".split())
BUILT_INS = set(dir(__builtins__) if not isinstance(__builtins__, dict) else __builtins__)
METHODS = set("__init__ __eq__ __repr__ __str__ __len__".split())
WORDS_OUT = re.compile(
    r"\b(type|typing|typing_extensions|enum|Enum|IntEnum|StrEnum|Flag|IntFlag|Generic|Protocol|ABC|ABCMeta|namedtuple"
    r"|NamedTuple|TypedDict|TYPE_CHECKING|abstractmethod)\b|dataclass|overload|contextmanager")
METHODS_OF_PYTHONS_OWN = set(
    "append clear copy count endswith extend find get index insert isalnum isalpha isdigit islower isspace isupper "
    "items join keys ljust lower lstrip partition pop remove replace reverse rfind rjust rpartition rsplit rstrip "
    "setdefault split splitlines startswith strip update upper values zfill bit_length".split())
NODES_OUT = (
    ast.With, ast.Match, ast.Delete, ast.Global, ast.Nonlocal, ast.Assert, ast.Yield, ast.YieldFrom, ast.Await,
    ast.AsyncFunctionDef, ast.AsyncFor, ast.AsyncWith, ast.SetComp, ast.DictComp, ast.GeneratorExp, ast.NamedExpr,
    ast.Starred, ast.Div, ast.Import, ast.AnnAssign,
)


class Package(unittest.TestCase):
    def sources(self):
        return [path.read_text(encoding="utf-8") for path in sorted(PACKAGE.glob("*.py"))]

    def nodes(self, *kinds):
        trees = [ast.parse(source) for source in self.sources()]
        return [node for tree in trees for node in ast.walk(tree) if isinstance(node, kinds)]

    def test_only_plain_files(self):
        names = sorted(path.name for path in PACKAGE.iterdir() if path.name != "__pycache__")
        self.assertIn("__init__.py", names)
        for name in names:
            self.assertRegex(name, r"^[a-z0-9_]+\.py$")

    def test_only_own_modules_are_drawn_from(self):
        for node in self.nodes(ast.ImportFrom):
            self.assertEqual(node.level, 0)
            self.assertRegex(node.module, r"^pegleap\.[a-z]+$")
            self.assertNotIn("*", [alias.name for alias in node.names])

    def test_only_listed_names_of_pythons_own(self):
        for node in self.nodes(ast.Name):
            if node.id in BUILT_INS:
                self.assertIn(node.id, OWN_NAMES)

    def test_plain_names(self):
        for node in self.nodes(ast.FunctionDef, ast.ClassDef):
            if node.name not in METHODS:
                self.assertRegex(node.name, r"^[A-Za-z][A-Za-z0-9_]*$")
            self.assertEqual(node.decorator_list, [])
        for node in self.nodes(ast.arg):
            self.assertRegex(node.arg, r"^[A-Za-z][A-Za-z0-9_]*$")
            self.assertNotIn(node.arg, BUILT_INS)

    def test_no_form_that_is_out(self):
        self.assertEqual([ast.dump(node) for node in self.nodes(*NODES_OUT)], [])
        for node in self.nodes(ast.For, ast.While):
            self.assertEqual(node.orelse, [])
        for node in self.nodes(ast.Constant):
            self.assertNotIsInstance(node.value, (float, bytes, complex))

    def test_one_plain_target_in_an_assignment(self):
        for node in self.nodes(ast.Assign):
            self.assertEqual(len(node.targets), 1)
            self.assertIsInstance(node.targets[0], (ast.Name, ast.Attribute, ast.Subscript))

    def test_only_listed_methods_are_called(self):
        for node in self.nodes(ast.Call):
            if isinstance(node.func, ast.Attribute):
                self.assertIn(node.func.attr, METHODS_OF_PYTHONS_OWN | {"__init__"})

    def test_is_stands_beside_none_true_and_false_alone(self):
        for node in self.nodes(ast.Compare):
            if isinstance(node.ops[0], (ast.Is, ast.IsNot)):
                self.assertIn(ast.unparse(node.comparators[0]), ("None", "True", "False"))

    def test_no_local_is_called_like_what_its_file_draws_in_or_a_class_of_it(self):
        for source in self.sources():
            tree = ast.parse(source)
            taken = {alias.name for node in tree.body if isinstance(node, ast.ImportFrom) for alias in node.names}
            taken |= {node.name for node in tree.body if isinstance(node, ast.ClassDef)} | BUILT_INS
            for node in ast.walk(tree):
                if isinstance(node, ast.Name) and isinstance(node.ctx, ast.Store):
                    self.assertNotIn(node.id, taken)
                if isinstance(node, ast.arg):
                    self.assertNotIn(node.arg, taken)

    def test_no_two_files_draw_from_one_another(self):
        drawn_from = {}
        for path in PACKAGE.glob("*.py"):
            tree = ast.parse(path.read_text(encoding="utf-8"))
            drawn_from[f"pegleap.{path.stem}"] = {
                node.module for node in ast.walk(tree) if isinstance(node, ast.ImportFrom)}
        while drawn_from:
            free = [name for name, others in drawn_from.items() if not others & set(drawn_from)]
            self.assertNotEqual(free, [])
            for name in free:
                del drawn_from[name]

    def test_sizes(self):
        for node in self.nodes(ast.FunctionDef):
            self.assertLessEqual(node.end_lineno - node.lineno + 1, 40)
        for source in self.sources():
            lines = source.split("\n")
            self.assertLessEqual(len(lines), 401)
            self.assertLessEqual(max(len(line) for line in lines), 120)

    def test_the_examples_of_the_readme(self):
        text = (PACKAGE.parent / "README.md").read_text(encoding="utf-8")
        names = {}
        for line in text.split("```python\n")[1].split("```")[0].splitlines():
            code, sign, told = line.partition("#")
            if sign:
                self.assertEqual(eval(code.strip(), names), eval(told.strip()), code)
            else:
                exec(code, names)

    def test_signs_and_words(self):
        for source in self.sources():
            self.assertRegex(source, r"\A[ -~\n]*\Z")
            self.assertIsNone(WORDS_OUT.search(source))


if __name__ == "__main__":
    unittest.main()
