"""Some rules of the language subset that the package keeps to, by their numbers there."""

import ast
import pathlib
import re
import unittest

PACKAGE = pathlib.Path(__file__).resolve().parent.parent / "untoldprimes"
BUILTINS = set(
    "len range enumerate zip min max sum abs sorted reversed int str bool bytes list tuple dict set frozenset "
    "isinstance ord repr any all divmod Exception ValueError TypeError KeyError IndexError LookupError "
    "ZeroDivisionError ArithmeticError OverflowError RuntimeError NotImplementedError".split()
)
BARRED = re.compile(
    r"\b(type|typing|typing_extensions|enum|Enum|IntEnum|StrEnum|Flag|IntFlag|Generic|Protocol|ABC|ABCMeta|"
    r"namedtuple|NamedTuple|TypedDict|TYPE_CHECKING|abstractmethod)\b|dataclass|overload|contextmanager"
)


def files():
    return sorted(PACKAGE.glob("*.py"))


def bound_names(tree):
    names = set()
    for node in ast.walk(tree):
        if isinstance(node, ast.Name) and not isinstance(node.ctx, ast.Load):
            names.add(node.id)
        elif isinstance(node, ast.arg):
            names.add(node.arg)
        elif isinstance(node, (ast.FunctionDef, ast.ClassDef)):
            names.add(node.name)
        elif isinstance(node, ast.alias):
            names.add(node.asname or node.name)
        elif isinstance(node, (ast.MatchAs, ast.MatchStar)):
            names.add(node.name)
    return names


def imported(path):
    return {node.module.split(".")[1] for node in ast.parse(path.read_text()).body if isinstance(node, ast.ImportFrom)}


class Language(unittest.TestCase):
    def test_l1_the_folder_has_only_plain_files(self):
        others = [path.name for path in PACKAGE.iterdir() if path.name != "__pycache__"]
        self.assertEqual(sorted(others), [path.name for path in files()])
        self.assertIn("__init__.py", others)
        for name in others:
            self.assertRegex(name, r"\A[a-z0-9_]+\.py\Z")

    def test_l2_l16_imports(self):
        for path in files():
            for node in ast.walk(ast.parse(path.read_text())):
                self.assertNotIsInstance(node, ast.Import)
                if isinstance(node, ast.ImportFrom):
                    self.assertTrue(node.module.startswith("untoldprimes."))
                    self.assertEqual(node.level, 0)
                    self.assertNotIn("*", [alias.name for alias in node.names])

    def test_l16_names_come_from_the_file_that_defines_them(self):
        for path in files():
            for node in ast.parse(path.read_text()).body:
                if isinstance(node, ast.ImportFrom):
                    source = PACKAGE / (node.module.split(".")[1] + ".py")
                    defined = {row.name for row in ast.parse(source.read_text()).body if hasattr(row, "name")}
                    self.assertLessEqual({alias.name for alias in node.names}, defined)

    def test_l16_no_two_files_import_from_each_other(self):
        ahead = {path.stem: imported(path) for path in files()}
        while ahead:
            free = [name for name in ahead if not ahead[name] & set(ahead)]
            self.assertNotEqual(free, [])
            ahead = {name: ahead[name] for name in ahead if name not in free}

    def test_l7_no_numbers_with_a_point(self):
        for path in files():
            for node in ast.walk(ast.parse(path.read_text())):
                self.assertNotIsInstance(node, ast.Div)
                self.assertFalse(isinstance(node, ast.Constant) and isinstance(node.value, (float, complex)))

    def test_l8_builtins(self):
        for path in files():
            tree = ast.parse(path.read_text())
            used = {node.id for node in ast.walk(tree) if isinstance(node, ast.Name)}
            bound = bound_names(tree)
            self.assertEqual(used - bound - BUILTINS, set())
            self.assertEqual(bound & BUILTINS, set())

    def test_l10_sizes(self):
        for path in files():
            rows = path.read_text().split("\n")
            self.assertLessEqual(len(rows), 400)
            self.assertLessEqual(max(len(row) for row in rows), 120)
            for node in ast.walk(ast.parse(path.read_text())):
                if isinstance(node, ast.FunctionDef):
                    self.assertLessEqual(node.end_lineno - node.lineno + 1, 40)

    def test_l14_signs(self):
        for path in files():
            self.assertRegex(path.read_bytes(), rb"\A[ -~\n]*\Z")

    def test_l17_words(self):
        for path in files():
            self.assertIsNone(BARRED.search(path.read_text()))


if __name__ == "__main__":
    unittest.main()
