"""The interface: each name in its file, with its parameters; and some rules on how the files are written."""

import ast
import importlib
import inspect
import pathlib
import unittest

PACKAGE = pathlib.Path(__file__).resolve().parent.parent / "runswap"
FROM_LIBRARY = ("heapq", "math", "itertools", "collections")
INTERFACE = {
    "rows": {"is_row": "(value)", "is_runs": "(value)", "runs_of": "(row)", "row_of": "(runs)",
             "swapped": "(row)", "row_after": "(row, *, rounds=1)", "rows_from": "(row)"},
    "settling": {"is_settled": "(row)", "is_still": "(row)", "rounds_needed": "(row)",
                 "settled_pair": "(row)", "run_counts": "(row)", "meeting": "(row, other)"},
    "bounds": {"joined_runs": "(row)", "most_rounds": "(total)", "slowest_row": "(total)",
               "least_total": "(rounds)"},
    "before": {"has_before": "(row)", "count_before": "(row)", "nth_before": "(row, number)",
               "number_before": "(row)", "entry_range": "(row)"},
    "counting": {"count_rows": "(total)", "nth_row": "(total, number)", "row_number": "(row)",
                 "count_by_runs": "(total, runs)"},
    "cycles": {"count_settled": "(total)", "count_still": "(total)", "nth_settled": "(total, number)",
               "settled_number": "(row)", "nth_still": "(total, number)", "still_number": "(row)"},
    "long": {"is_blocks": "(value)", "long_after": "(blocks, *, rounds=1)", "long_needed": "(blocks)",
             "long_entry": "(blocks, place, *, rounds=1)", "long_count": "(blocks, number, *, rounds=1)",
             "long_find": "(blocks, number, index, *, rounds=1)"},
    "texts": {"show_row": "(row)", "read_row": "(text)", "show_runs": "(runs)", "read_runs": "(text)"},
}
CLASSES = {
    ("live", "LiveRow"): {"__init__": "(self, row)", "swap": "(self)", "put": "(self, place, number)",
                          "take": "(self, place)", "change": "(self, place, number)", "undo": "(self)",
                          "log": "(self)", "preview": "(self, *operations)", "__len__": "(self)",
                          "__eq__": "(self, other)"},
    ("console", "Console"): {"__init__": "(self)", "say": "(self, command)"},
}
CLASS_METHODS = {"of": "(*numbers)", "settled": "(total, *, number=0)"}
PROPERTIES = ["row", "runs", "stands"]


class InterfaceTest(unittest.TestCase):
    def test_names_files_and_parameters(self):
        for file, functions in INTERFACE.items():
            module = importlib.import_module("runswap." + file)
            for name, parameters in functions.items():
                with self.subTest(file=file, name=name):
                    function = getattr(module, name)
                    self.assertEqual(function.__module__, "runswap." + file)
                    self.assertEqual(function.__name__, name)
                    self.assertEqual(str(inspect.signature(function)), parameters)

    def test_methods_stand_in_their_class(self):
        for (file, name), methods in CLASSES.items():
            found = getattr(importlib.import_module("runswap." + file), name)
            self.assertEqual((found.__module__, found.__name__), ("runswap." + file, name))
            for method, parameters in methods.items():
                with self.subTest(name=name, method=method):
                    self.assertEqual(str(inspect.signature(vars(found)[method])), parameters)

    def test_class_methods_properties_and_values_of_live_rows(self):
        found = importlib.import_module("runswap.live").LiveRow
        for method, parameters in CLASS_METHODS.items():
            self.assertIsInstance(vars(found)[method], classmethod)
            self.assertEqual(str(inspect.signature(getattr(found, method))), parameters)
        for name in PROPERTIES:
            self.assertIsInstance(vars(found)[name], property)
        self.assertEqual(vars(found)["LIMIT"], 200)

    def test_rows_from_is_a_generator(self):
        rows = importlib.import_module("runswap.rows")
        self.assertTrue(inspect.isgeneratorfunction(rows.rows_from))


class FilesTest(unittest.TestCase):
    def setUp(self):
        self.texts = {path: path.read_text(encoding="utf-8") for path in sorted(PACKAGE.rglob("*.py"))}

    def test_only_files_of_code(self):
        found = [path for path in PACKAGE.rglob("*") if "__pycache__" not in path.parts]
        self.assertEqual(sorted(found), sorted(self.texts))
        self.assertIn(PACKAGE / "__init__.py", found)

    def test_sizes_and_characters(self):
        for path, text in self.texts.items():
            with self.subTest(path=path.name):
                lines = text.split("\n")
                self.assertLess(len(lines), 400)
                self.assertLessEqual(max(len(line) for line in lines), 120)
                self.assertEqual([sign for sign in text if sign != "\n" and not " " <= sign <= "~"], [])

    def test_functions_are_small(self):
        for path, text in self.texts.items():
            for node in ast.walk(ast.parse(text)):
                if isinstance(node, ast.FunctionDef):
                    with self.subTest(path=path.name, function=node.name):
                        self.assertLessEqual(node.end_lineno - node.lineno + 1, 40)

    def test_imports(self):
        for path, text in self.texts.items():
            for node in ast.walk(ast.parse(text)):
                with self.subTest(path=path.name):
                    self.assertNotIsInstance(node, ast.Import)
                    if isinstance(node, ast.ImportFrom):
                        self.assertEqual(node.level, 0)
                        self.assertIn(node.module.split(".")[0], FROM_LIBRARY + ("runswap",))


if __name__ == "__main__":
    unittest.main()
