"""What the files of the package keep to, as far as a few lines can see it."""

import ast
import builtins
import pathlib
import unittest

PACKAGE = pathlib.Path(__file__).resolve().parent.parent / "lettersdesk"

ALLOWED_BUILTINS = (
    "len range enumerate zip min max sum abs sorted reversed int str bool list tuple dict set isinstance ord repr any "
    "all divmod map super property iter next getattr hasattr setattr type pow ValueError TypeError KeyError IndexError "
    "LookupError ZeroDivisionError StopIteration NotImplemented"
).split()
BARRED_NODES = (
    ast.AsyncFunctionDef,
    ast.GeneratorExp,
    ast.Await,
    ast.Div,
    ast.MatMult,
    ast.TryStar,
    ast.YieldFrom,
)


def files():
    return sorted(PACKAGE.rglob("*.py"))


def nodes():
    for path in files():
        for node in ast.walk(ast.parse(path.read_text())):
            yield path.name, node


class LanguageTest(unittest.TestCase):
    def test_the_folder_contains_nothing_else(self):
        found = [path for path in PACKAGE.rglob("*") if "__pycache__" not in path.parts and path.is_file()]
        self.assertCountEqual(found, files())
        self.assertIn(PACKAGE / "__init__.py", files())

    def test_characters_and_lengths(self):
        for path in files():
            text = path.read_bytes()
            self.assertTrue(all(byte == 10 or 32 <= byte <= 126 for byte in text), path.name)
            lines = text.split(b"\n")
            self.assertLessEqual(len(lines), 400, path.name)
            self.assertLessEqual(max(map(len, lines)), 120, path.name)

    def test_functions_have_at_most_forty_lines(self):
        for name, node in nodes():
            if isinstance(node, ast.FunctionDef):
                self.assertLessEqual(node.end_lineno - node.lineno + 1, 40, (name, node.name))

    def test_imports_are_of_the_package_and_name_the_defining_file(self):
        library = {"heapq", "math", "itertools", "collections"}
        for name, node in nodes():
            self.assertNotIsInstance(node, ast.Import, name)
            if isinstance(node, ast.ImportFrom) and node.module not in library:
                self.assertTrue(node.module.startswith("lettersdesk."), name)
                tree = ast.parse((PACKAGE / f"{node.module.split('.')[1]}.py").read_text())
                own = [each.name for each in tree.body if isinstance(each, (ast.FunctionDef, ast.ClassDef))]
                own += [each.targets[0].id for each in tree.body if isinstance(each, ast.Assign)]
                for alias in node.names:
                    self.assertIn(alias.name, own, name)

    def test_builtins(self):
        known = set(dir(builtins)) - set(ALLOWED_BUILTINS)
        for name, node in nodes():
            if isinstance(node, ast.Name):
                self.assertNotIn(node.id, known, (name, node.lineno))

    def test_barred_statements(self):
        for name, node in nodes():
            self.assertNotIsInstance(node, BARRED_NODES, name)
            if isinstance(node, ast.Constant):
                self.assertNotIsInstance(node.value, (float, complex), (name, node.lineno))


if __name__ == "__main__":
    unittest.main()
