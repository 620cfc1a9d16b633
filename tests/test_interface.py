"""The names, arguments and places of the interface, and the plainest rules of form."""

import ast
import importlib
import inspect
import pathlib
import unittest

FOLDER = pathlib.Path(__file__).resolve().parent.parent / "carriedparts"
INTERFACE = {
    "errors": {
        "BadLayout": "place", "BadFile": "place", "BadRow": "place", "BadLog": "place", "BadText": "place",
        "BadDeed": "word", "Clash": "name", "Gap": "kind other", "Waste": "kind other", "Missing": "name",
    },
    "layouts": {
        "need_layout": "thing", "is_layout": "thing", "newest": "layout", "names": "layout", "known": "layout edition",
        "beneath": "layout name", "above": "layout name", "sources": "layout name", "is_older": "layout name other",
        "watches": "layout name", "minds": "layout name",
    },
    "files": {
        "need_file": "layout thing", "is_current": "layout file name", "stale": "layout file",
        "is_sound": "layout file",
    },
    "programs": {
        "done": "layout edition file deed", "need_row": "layout thing", "played": "layout row",
    },
    "judging": {
        "gaps": "layout", "wastes": "layout", "is_safe": "layout", "is_sparing": "layout", "is_exact": "layout",
        "cost": "layout name other", "unsound_row": "layout", "vain_row": "layout",
    },
    "marks": {"careful": "layout", "splits": "layout", "exact": "layout"},
    "letters": {
        "are_alike": "one other", "parting_row": "one other", "columns": "layout", "can_share": "layout name other",
        "fewest": "layout", "unlike": "layout",
    },
    "merging": {
        "merged": "layout edition base one other", "is_merge_safe": "layout", "is_merge_sparing": "layout",
        "merge_fault": "layout", "merge_waste": "layout",
    },
    "growing": {"fits": "layout bases", "widened": "layout bases", "with_kinds": "layout *kinds"},
    "learning": {
        "need_log": "layout thing", "learned": "layout log", "open_letters": "layout log", "questions": "layout log",
        "agrees": "layout log",
    },
    "texts": {
        "layout_text": "layout", "file_text": "layout file", "row_text": "layout row", "read_layout": "text",
        "read_file": "layout text", "read_row": "layout text",
    },
    "works": {"Work": "layout", "tried": "work call"},
    "releases": {"Releases": "layout"},
    "desk": {"Desk": "text"},
}
METHODS = {
    ("works", "Work"): {
        "do": "self edition *deed", "undo": "self", "redo": "self", "stale": "self", "fork": "self",
        "merge": "self edition other", "trial": "self",
    },
    ("releases", "Releases"): {
        "release": "self *kinds sparing=False", "undo": "self", "carried": "self number other",
    },
    ("desk", "Desk"): {"say": "self line"},
}
PROPERTIES = {
    ("works", "Work"): ("file", "layout", "losses"), ("releases", "Releases"): ("last",), ("desk", "Desk"): ("work",),
}
OPERATORS = {
    ("works", "Work"): ("__contains__", "__getitem__", "__len__", "__eq__"),
    ("releases", "Releases"): ("__len__", "__getitem__"), ("desk", "Desk"): (),
}
CONSTANTS = {
    ("layouts", "MOST_KINDS"): 24, ("layouts", "MOST_BASES"): 6, ("layouts", "MOST_EDITION"): 99,
    ("files", "MOST_CONTENT"): 999999, ("programs", "MOST_STEPS"): 400,
}
GENERATORS = (("judging", "gaps"), ("judging", "wastes"), ("marks", "splits"))


def parameters_of(called):
    return [str(parameter) for parameter in inspect.signature(called).parameters.values()]


class Interface(unittest.TestCase):
    def test_names_and_arguments(self):
        for module, listed in INTERFACE.items():
            for name, arguments in listed.items():
                with self.subTest(module=module, name=name):
                    found = getattr(importlib.import_module("carriedparts." + module), name)
                    self.assertEqual(found.__module__, "carriedparts." + module)
                    self.assertEqual(parameters_of(found), arguments.split())
                    self.assertEqual(inspect.isgeneratorfunction(found), (module, name) in GENERATORS)

    def test_methods_stand_in_the_classes_themselves(self):
        for (module, name), methods in METHODS.items():
            body = vars(getattr(importlib.import_module("carriedparts." + module), name))
            for method, arguments in methods.items():
                with self.subTest(name=name, method=method):
                    self.assertEqual(parameters_of(body[method]), arguments.split())
            for method in OPERATORS[module, name]:
                self.assertTrue(inspect.isfunction(body[method]), method)
            for method in PROPERTIES[module, name]:
                self.assertIsInstance(body[method], property)

    def test_constants(self):
        for (module, name), value in CONSTANTS.items():
            self.assertEqual(getattr(importlib.import_module("carriedparts." + module), name), value)


class Form(unittest.TestCase):
    def test_folder_holds_nothing_but_modules(self):
        for path in FOLDER.iterdir():
            self.assertTrue(path.suffix == ".py" or path.name == "__pycache__", path)

    def test_files(self):
        for path in FOLDER.glob("*.py"):
            text = path.read_text(encoding="utf-8")
            with self.subTest(path=path):
                self.assertTrue(all(sign == "\n" or " " <= sign <= "~" for sign in text))
                self.assertLessEqual(len(text.splitlines()), 399)
                self.assertLessEqual(max(map(len, text.splitlines())), 120)

    def test_functions(self):
        for path in FOLDER.glob("*.py"):
            for node in ast.walk(ast.parse(path.read_text(encoding="utf-8"))):
                if isinstance(node, ast.FunctionDef):
                    self.assertLessEqual(node.end_lineno - node.lineno + 1, 40, (path, node.name))

    def test_numbers_at_the_top_of_files(self):
        """None of more than 900 digits, and no shift by more than 3000."""
        for path in FOLDER.glob("*.py"):
            module = importlib.import_module("carriedparts." + path.stem)
            for node in ast.parse(path.read_text(encoding="utf-8")).body:
                if not isinstance(node, ast.Assign):
                    continue
                for part in ast.walk(node):
                    if isinstance(part, ast.BinOp):
                        value = eval(compile(ast.Expression(part), str(path), "eval"), vars(module))
                        self.assertLess(abs(value), 10 ** 900, path)
                        if isinstance(part.op, ast.LShift):
                            shift = eval(compile(ast.Expression(part.right), str(path), "eval"), vars(module))
                            self.assertLessEqual(shift, 3000, path)

    def test_imports(self):
        allowed = ("heapq", "math", "itertools")
        for path in FOLDER.glob("*.py"):
            for node in ast.walk(ast.parse(path.read_text(encoding="utf-8"))):
                self.assertNotIsInstance(node, ast.Import)
                if isinstance(node, ast.ImportFrom):
                    self.assertTrue(node.module in allowed or node.module.startswith("carriedparts."), path)


if __name__ == "__main__":
    unittest.main()
