"""The interface: names, arguments, and the files in which they are defined."""

import ast
import importlib
import inspect
import pathlib
import unittest

PACKAGE = pathlib.Path(__file__).resolve().parent.parent / "lettersdesk"

FUNCTIONS = {
    "plays": {"play": ["book", "deeds"], "faults": ["book", "deeds"]},
}
CLASSES = {
    "books": {
        "Book": {
            "__init__": ["self", "desks", "rules"],
            "__getitem__": ["self", "at"],
            "__len__": ["self"],
            "__eq__": ["self", "other"],
            "__add__": ["self", "other"],
            "rules": ["self"],
            "desks": ["self"],
            "without": ["self", "indexes"],
            "exchanged": ["self", "index"],
        },
    },
}
ERRORS = ["DeskError", "NoDesks", "NoKind", "NoPerson", "NothingToUndo"]
ERRORS_WITH_FIELD = {"NoRule": "index", "NoDeed": "index", "NoTicket": "index", "NoDesk": "name", "NoText": "line"}


def parameters(function):
    return list(inspect.signature(function).parameters)


def defined(file):
    """The names of the functions and classes that a file of the package defines."""
    tree = ast.parse((PACKAGE / f"{file}.py").read_text())
    return [node.name for node in tree.body if isinstance(node, (ast.FunctionDef, ast.ClassDef))]


class InterfaceTest(unittest.TestCase):
    def test_functions(self):
        for file, functions in FUNCTIONS.items():
            module = importlib.import_module(f"lettersdesk.{file}")
            for name, expected in functions.items():
                self.assertIn(name, defined(file))
                self.assertEqual(parameters(getattr(module, name)), expected)

    def test_classes_and_their_own_methods(self):
        for file, classes in CLASSES.items():
            module = importlib.import_module(f"lettersdesk.{file}")
            for name, methods in classes.items():
                self.assertIn(name, defined(file))
                for method, expected in methods.items():
                    self.assertEqual(parameters(vars(getattr(module, name))[method]), expected)

    def test_errors(self):
        module = importlib.import_module("lettersdesk.errors")
        self.assertCountEqual(defined("errors"), ERRORS + list(ERRORS_WITH_FIELD))
        for name, field in ERRORS_WITH_FIELD.items():
            self.assertEqual(parameters(getattr(module, name)), [field])


if __name__ == "__main__":
    unittest.main()
