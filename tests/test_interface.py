"""The names and arguments of the interface, and what can be seen of the package's files."""

import ast
import importlib
import inspect
import pathlib
import unittest

FUNCTIONS = {
    "slidefloor.floors": {
        "need_floor": ["floor"],
        "need_standing": ["floor", "standing"],
        "ordered": ["floor"],
    },
    "slidefloor.moves": {
        "moves": ["floor", "standing"],
        "moved": ["floor", "standing", "words"],
    },
    "slidefloor.sides": {
        "side": ["floor", "standing"],
        "is_joined": ["floor", "one", "other"],
        "how_many": ["floor", "standing"],
    },
    "slidefloor.ways": {
        "way": ["floor", "one", "other"],
    },
    "slidefloor.few": {
        "fewest": ["floor", "one", "other"],
        "farthest": ["floor", "standing"],
    },
    "slidefloor.notes": {
        "standing_text": ["floor", "standing"],
        "standing_of": ["text"],
    },
}

BOX_METHODS = {
    "__init__": ["self", "floor", "standing"],
    "floor": ["self"],
    "standing": ["self"],
    "push": ["self", "word"],
    "slide": ["self", "tile"],
    "back": ["self"],
    "done": ["self"],
}

PACKAGE = pathlib.Path(__file__).resolve().parent.parent / "slidefloor"
LIBRARY = {"math", "heapq", "itertools", "collections", "__future__"}


def package_files():
    return sorted(PACKAGE.rglob("*.py"))


class InterfaceTest(unittest.TestCase):
    def test_names_and_arguments(self):
        for module_name, functions in FUNCTIONS.items():
            module = importlib.import_module(module_name)
            for name, arguments in functions.items():
                with self.subTest(module=module_name, name=name):
                    function = getattr(module, name)
                    self.assertTrue(inspect.isfunction(function))
                    self.assertEqual(list(inspect.signature(function).parameters), arguments)
                    self.assertEqual(function.__module__, module_name)

    def test_box_and_its_methods(self):
        box = importlib.import_module("slidefloor.box").Box
        self.assertTrue(inspect.isclass(box))
        self.assertEqual(box.__module__, "slidefloor.box")
        for name, arguments in BOX_METHODS.items():
            with self.subTest(name=name):
                method = vars(box)[name]
                self.assertTrue(inspect.isfunction(method))
                self.assertEqual(list(inspect.signature(method).parameters), arguments)


class FilesTest(unittest.TestCase):
    def test_the_folder_has_only_files_of_the_program(self):
        for path in PACKAGE.rglob("*"):
            if "__pycache__" not in path.parts:
                with self.subTest(path=str(path)):
                    self.assertTrue(path.is_dir() or path.suffix == ".py")

    def test_signs_and_lengths(self):
        for path in package_files():
            with self.subTest(path=path.name):
                text = path.read_bytes().decode("ascii")
                self.assertTrue(all(sign == "\n" or " " <= sign <= "~" for sign in text))
                lines = text.split("\n")
                self.assertLessEqual(len(lines), 400)
                self.assertLessEqual(max(len(line) for line in lines), 120)

    def test_functions_are_short(self):
        for path in package_files():
            for node in ast.walk(ast.parse(path.read_text())):
                if isinstance(node, ast.FunctionDef):
                    with self.subTest(path=path.name, name=node.name):
                        self.assertLessEqual(node.end_lineno - node.lineno + 1, 40)

    def test_imports_are_of_the_package_or_the_allowed_library(self):
        for path in package_files():
            for node in ast.walk(ast.parse(path.read_text())):
                with self.subTest(path=path.name):
                    self.assertNotIsInstance(node, ast.Import)
                    if isinstance(node, ast.ImportFrom):
                        self.assertEqual(node.level, 0)
                        self.assertIn(node.module.split(".")[0], LIBRARY | {"slidefloor"})


if __name__ == "__main__":
    unittest.main()
