"""The form of the package: its files, their sizes and characters, and the README."""

import ast
import doctest
import importlib
import inspect
import pathlib
import unittest

TOP = pathlib.Path(__file__).resolve().parent.parent
FILES = sorted((TOP / "lateids").rglob("*.py"))

READER = "order, polls, *, overlap=1, wait=0, page=None"

INTERFACE = {
    "histories": {
        "is_history": "value", "order_of": "history", "open_at": "history, position", "safe_at": "history, position",
        "spans": "history",
    },
    "moments": {
        "visible_at": "order, moment", "top_at": "order, moment", "missed_at": "order, moment",
        "missed_counts": "order", "danger_of": "order, row", "safe_ids": "order",
    },
    "readers": {"read": READER, "states": READER, "lost_ids": READER, "walk_polls": "order, polls"},
    "exact": {
        "can_lose": "order, ids", "alone_ids": "order", "polls_for": "order, ids", "count_polls_for": "order, ids",
    },
    "schedules": {
        "lost_between": "order, earlier, later", "least_loss": "order, gap", "best_schedule": "order, gap",
        "least_loss_of": "order, count", "greatest_loss_of": "order, count", "schedule_of": "order, count, loss",
    },
    "margins": {
        "reaches": "order, polls", "waits": "order, polls", "least_overlap": "order, polls, most",
        "least_wait": "order, polls, most", "greatest_reach": "order",
    },
    "logs": {
        "is_log": "value", "fits": "log, ids", "blocks": "log, ids", "surely_ahead": "log, ids, one, other",
        "count_orders": "log, ids", "is_order_of": "log, ids, value", "nth_order": "log, ids, number",
        "order_number": "log, ids, order",
    },
    "several": {
        "arrows": "logs, ids", "conflict": "logs, ids", "is_conflict": "logs, ids, value", "run_for": "logs, ids",
        "is_run": "logs, ids, value", "count_rows": "logs, ids", "is_ahead": "logs, ids, one, other",
    },
    "counts": {
        "counts_fit": "counts, ids", "lost_numbers": "counts, ids", "states_by": "counts, ids",
        "count_logs": "counts, ids", "nth_log": "counts, ids, number",
    },
    "repair": {
        "missing_runs": "log", "found_again": "log, order, moment", "count_ranges": "log, budget",
        "ranges_for": "log, budget", "is_repair": "log, budget, value",
    },
    "rounds": {
        "is_round": "value", "far_lost": "steps, times", "far_cursor": "steps, times", "lost_rate": "steps",
        "written_out": "steps, times",
    },
    "texts": {"format_history": "history", "format_log": "log", "parse_history": "text", "parse_log": "text"},
}

# For each class its own methods, the double-underscore ones and the properties included.
CLASSES = {
    ("live", "LiveTable"): {
        "__init__": "self", "begin": "self", "commit": "self, row", "rollback": "self, row", "poll": "self, name",
        "run": "self, *events", "cursor_of": "self, name", "lost_of": "self, name", "undo": "self", "fork": "self",
        "of": "cls, history", "order": "self", "open_ids": "self", "readers": "self", "__eq__": "self, other",
        "__len__": "self",
    },
    ("console", "Console"): {"__init__": "self", "execute": "self, row"},
}


def tree_of(file):
    return ast.parse(file.read_text())


class PackageTest(unittest.TestCase):

    def test_the_folder_holds_python_files_only(self):
        others = [path for path in (TOP / "lateids").rglob("*")
                  if path.is_file() and path.suffix != ".py" and "__pycache__" not in path.parts]
        self.assertEqual(others, [])
        self.assertIn(TOP / "lateids" / "__init__.py", FILES)

    def test_characters_and_sizes(self):
        for file in FILES:
            text = file.read_text()
            self.assertTrue(all(letter == "\n" or " " <= letter <= "~" for letter in text), file)
            self.assertLessEqual(len(text.splitlines()), 399, file)
            self.assertLessEqual(max([len(line) for line in text.splitlines()]), 120, file)

    def test_functions_are_short(self):
        for file in FILES:
            for node in ast.walk(tree_of(file)):
                if isinstance(node, ast.FunctionDef):
                    self.assertLessEqual(node.end_lineno - node.lineno + 1, 40, node.name)

    def test_imports_are_from_the_package(self):
        for file in FILES:
            for node in ast.walk(tree_of(file)):
                self.assertNotIsInstance(node, ast.Import, file)
                if isinstance(node, ast.ImportFrom):
                    self.assertEqual(node.level, 0)
                    names = [(node.module, name.name) for name in node.names if name.asname is None]
                    self.assertEqual(len(names), len(node.names))
                    if names != [("math", "comb")]:
                        self.assertEqual(node.module.split(".")[0], "lateids")

    def test_functions_of_the_interface_are_defined_in_their_files(self):
        for name, functions in INTERFACE.items():
            tree = tree_of(TOP / "lateids" / (name + ".py"))
            defined = {node.name: ast.unparse(node.args) for node in tree.body if isinstance(node, ast.FunctionDef)}
            module = importlib.import_module("lateids." + name)
            for function, parameters in functions.items():
                self.assertEqual(defined.get(function), parameters, function)
                self.assertEqual(str(inspect.signature(getattr(module, function))), f"({parameters})")

    def test_methods_of_the_interface_are_defined_in_their_classes(self):
        for (name, word), methods in CLASSES.items():
            tree = tree_of(TOP / "lateids" / (name + ".py"))
            bodies = [node.body for node in tree.body if isinstance(node, ast.ClassDef) and node.name == word]
            self.assertEqual(len(bodies), 1)
            defined = {node.name: ast.unparse(node.args) for node in bodies[0] if isinstance(node, ast.FunctionDef)}
            for method, parameters in methods.items():
                self.assertEqual(defined.get(method), parameters, method)
        table = importlib.import_module("lateids.live").LiveTable
        self.assertEqual([type(vars(table)[word]) for word in ["order", "open_ids", "readers", "of"]],
                         [property, property, property, classmethod])

    def test_each_file_of_the_interface_is_there(self):
        names = set(INTERFACE) | {name for name, _ in CLASSES} | {"errors", "checks", "__init__"}
        self.assertEqual({file.stem for file in FILES}, names)

    def test_examples_of_the_readme(self):
        failed, tried = doctest.testfile(str(TOP / "README.md"), module_relative=False)
        self.assertEqual(failed, 0)
        self.assertGreater(tried, 0)


if __name__ == "__main__":
    unittest.main()
