"""The rules of the language subset that are easily broken by chance, held against the files of the package."""

import ast
import builtins
import pathlib
import re
import unittest

PACKAGE = pathlib.Path(__file__).resolve().parent.parent / "sightings"
BUILTINS = set("len range enumerate zip min max sum abs sorted reversed int str bool list tuple dict set isinstance any all "
               "ValueError".split())
METHODS = set("append clear copy count extend get index insert items keys pop remove reverse values".split())
BARRED_WORDS = re.compile(r"\b(type|typing|enum|Enum|Flag|Generic|Protocol|ABC|namedtuple|NamedTuple|abstractmethod|register|"
                          r"elements|open|input)\b|dataclass|overload|contextmanager|[^\n -~]")


class Rules(unittest.TestCase):
    def files(self):
        for path in sorted(PACKAGE.glob("*.py")):
            text = path.read_text(encoding="utf-8")
            yield path.name, text, ast.parse(text)

    def test_the_folder_holds_the_listed_files(self):
        names = {path.name for path in PACKAGE.iterdir()} - {"__pycache__"}
        listed = {"__init__.py", "errors.py", "answers.py", "seeking.py", "counting.py", "news.py"}
        self.assertEqual(names, listed | {"walks.py"})

    def test_sizes_and_words(self):
        for name, text, tree in self.files():
            with self.subTest(name):
                lines = text.splitlines()
                self.assertLessEqual(len(lines), 400)
                self.assertLessEqual(max(map(len, lines)), 120)
                self.assertIsNone(BARRED_WORDS.search(text))
                for node in ast.walk(tree):
                    if isinstance(node, ast.FunctionDef):
                        self.assertLessEqual(node.end_lineno - node.lineno + 1, 40)

    def test_imports(self):
        for name, _, tree in self.files():
            for node in ast.walk(tree):
                self.assertNotIsInstance(node, ast.Import)
                if isinstance(node, ast.ImportFrom):
                    self.assertTrue(node.module.startswith("sightings.") and node.level == 0, name)

    def test_no_points_and_no_other_barred_code(self):
        for name, _, tree in self.files():
            for node in ast.walk(tree):
                self.assertNotIsInstance(node, (ast.Div, ast.Global, ast.Try, ast.JoinedStr))
                if isinstance(node, ast.Constant):
                    self.assertNotIsInstance(node.value, (float, complex))
                    self.assertNotIn("%", str(node.value), name)

    def test_no_name_hides_a_builtin(self):
        for name, _, tree in self.files():
            bound = {node.id for node in ast.walk(tree) if isinstance(node, ast.Name) and isinstance(node.ctx, ast.Store)}
            bound |= {node.arg for node in ast.walk(tree) if isinstance(node, ast.arg)}
            imported = {alias.name for node in ast.walk(tree) if isinstance(node, ast.ImportFrom) for alias in node.names}
            self.assertEqual(bound & (set(dir(builtins)) | imported), set(), name)

    def test_builtins_and_methods(self):
        for name, _, tree in self.files():
            own = {node.name for node in ast.walk(tree) if isinstance(node, (ast.FunctionDef, ast.ClassDef))}
            own |= {alias.name for node in ast.walk(tree) if isinstance(node, ast.ImportFrom) for alias in node.names}
            for node in ast.walk(tree):
                if isinstance(node, ast.Call):
                    called, allowed = (node.func.id, own | BUILTINS) if isinstance(node.func, ast.Name) else (
                        node.func.attr, METHODS)
                    self.assertIn(called, allowed, name)


if __name__ == "__main__":
    unittest.main()
