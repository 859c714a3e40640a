"""The interface: names, arguments, and the files in which they are defined."""

import ast
import importlib
import inspect
import pathlib
import unittest

PACKAGE = pathlib.Path(__file__).resolve().parent.parent / "lettersdesk"

FUNCTIONS = {
    "plays": {"play": ["book", "deeds"], "faults": ["book", "deeds"]},
    "right": {
        "first_fault": ["book"],
        "first_of": ["book", "kind"],
        "is_right": ["book"],
        "idle": ["book"],
        "acting": ["book", "index"],
        "fewest_out": ["book"],
        "states": ["book"],
    },
    "alike": {"told_apart": ["book", "other"], "loose": ["book"]},
    "texts": {"book_text": ["book"], "read_book": ["text"], "deeds_text": ["deeds"], "read_deeds": ["text"]},
}
CLASSES = {
    "books": {
        "Book": {
            "__init__": ["self", "desks", "rules"],
            "__getitem__": ["self", "at"],
            "__len__": ["self"],
            "__eq__": ["self", "other"],
            "__add__": ["self", "other"],
            "rules": ["self"],
            "desks": ["self"],
            "without": ["self", "indexes"],
            "exchanged": ["self", "index"],
        },
    },
    "live": {
        "Desk": {
            "__init__": ["self", "book"],
            "do": ["self", "person", "deed"],
            "day": ["self"],
            "undo": ["self"],
            "change": ["self", "book"],
            "ticket": ["self", "person"],
            "people": ["self"],
            "at": ["self", "name"],
            "__contains__": ["self", "person"],
            "__len__": ["self"],
        },
    },
}
ERRORS = ["DeskError", "NoDesks", "NoKind", "NoPerson", "NothingToUndo"]
ERRORS_WITH_FIELD = {"NoRule": "index", "NoDeed": "index", "NoTicket": "index", "NoDesk": "name", "NoText": "line"}


def parameters(function):
    return list(inspect.signature(function).parameters)


def defined(file):
    """The names of the functions and classes that a file of the package defines."""
    tree = ast.parse((PACKAGE / f"{file}.py").read_text())
    return [node.name for node in tree.body if isinstance(node, (ast.FunctionDef, ast.ClassDef))]


class InterfaceTest(unittest.TestCase):
    def test_functions(self):
        for file, functions in FUNCTIONS.items():
            module = importlib.import_module(f"lettersdesk.{file}")
            for name, expected in functions.items():
                self.assertIn(name, defined(file))
                self.assertEqual(parameters(getattr(module, name)), expected)

    def test_classes_and_their_own_methods(self):
        for file, classes in CLASSES.items():
            module = importlib.import_module(f"lettersdesk.{file}")
            for name, methods in classes.items():
                self.assertIn(name, defined(file))
                for method, expected in methods.items():
                    self.assertEqual(parameters(vars(getattr(module, name))[method]), expected)

    def test_properties_of_a_desk(self):
        desk = vars(importlib.import_module("lettersdesk.live").Desk)
        self.assertIsInstance(desk["replies"], property)
        self.assertIsInstance(desk["book"], property)
        self.assertIsNone(desk["replies"].fset)
        self.assertIsNotNone(desk["book"].fset)

    def test_errors(self):
        module = importlib.import_module("lettersdesk.errors")
        self.assertCountEqual(defined("errors"), ERRORS + list(ERRORS_WITH_FIELD))
        for name, field in ERRORS_WITH_FIELD.items():
            self.assertEqual(parameters(getattr(module, name)), [field])


if __name__ == "__main__":
    unittest.main()
