"""The interface stands in the files that the document names, and the files keep to the plain rules of size."""

import ast
import importlib
import inspect
import pathlib
import unittest

PACKAGE = pathlib.Path(__file__).parent.parent / "turnrota"

CLASSES = {
    "errors": {"TurnError": {}, "InvalidRota": {"__init__": ["word"]}, "InvalidText": {"__init__": ["at"]},
               "InvalidSeason": {"__init__": ["word"]}, "InvalidMisses": {"__init__": ["at"]},
               "InvalidDays": {"__init__": ["at"]}, "InvalidCommand": {}, "NoWheel": {"__init__": ["value"]},
               "NoTurning": {"__init__": ["day"]}, "NoFit": {}, "NoLot": {"__init__": ["at"]},
               "Refused": {"__init__": ["value"]}},
    "rotas": {"Rota": {"__init__": ["places", "rows"], "read": ["text"], "__len__": [], "__eq__": ["other"],
                       "__str__": []}},
    "seasons": {"Season": {"__init__": ["rota", "days", "budget", "looks"], "seen": ["looks"], "but": ["budget"],
                           "__eq__": ["other"]}},
    "rings": {"Harm": {"__init__": ["rota", "wheel", "span", "misses", "limit"]}},
    "live": {"Live": {"__init__": ["season"], "look": ["day", "wheel", "side"], "several": ["looks"],
                      "follow": ["season"], "undo": [], "trial": [], "within": ["work"], "__len__": []}},
    "desk": {"Desk": {"__init__": [], "say": ["command"], "__len__": []}},
}
FUNCTIONS = {
    "ways": {"place": ["rota", "wheel", "day"], "wheel_on": ["rota", "spot", "day"], "round_days": ["rota", "wheel"],
             "is_due": ["rota", "wheel", "day"], "due_count": ["rota", "wheel", "day"],
             "due_day": ["rota", "wheel", "at"]},
    "seasons": {"sides": ["season", "misses", "day"], "lain": ["season", "misses", "day"],
                "broken": ["season", "misses"], "fits": ["season", "misses"]},
    "deciding": {"possible": ["season"], "least": ["season"], "side": ["season", "wheel", "day"],
                 "open_wheels": ["season", "day"], "turning": ["season", "day", "wheel"],
                 "surely_missed": ["season"], "stretches": ["season", "wheel"], "slack": ["season"]},
    "counting": {"count": ["season"], "count_missed": ["season", "day", "wheel"], "share": ["season", "day", "wheel"],
                 "count_side": ["season", "wheel", "day"], "lot_at": ["season", "at"],
                 "number_of": ["season", "misses"], "by_misses": ["season"]},
    "lying": {"longest_lying": ["season", "wheel"], "lying_misses": ["season", "wheel"],
              "surely_lain": ["season", "wheel", "day"], "gap": ["rota", "wheel", "misses"],
              "worst_gap": ["rota", "misses"]},
    "evenness": {"ring_gap": ["days", "period", "misses"], "even_days": ["period", "turnings"],
                 "least_gap": ["period", "turnings", "misses"], "is_best": ["days", "period"],
                 "no_longer": ["days", "others", "period"]},
    "asking": {"results": ["season", "wheel", "day"], "left_by": ["season", "wheel", "day"],
               "best_looks": ["season", "day"], "settles": ["season", "wheel", "day", "other", "then"]},
    "rings": {"lies_for_ever": ["harm"], "mean_harm": ["harm"], "worst_round": ["harm"],
              "harm_of": ["harm", "days", "missed"]},
    "papers": {"paper": ["harm", "value"], "paper_holds": ["harm", "value", "paper"]},
    "comparing": {"never_staler": ["p", "q"], "staler": ["p", "q"], "fair": ["rota"],
                  "even_rota": ["places", "turned"], "shifted": ["rota", "days"]},
}


def tree(name):
    return ast.parse((PACKAGE / f"{name}.py").read_text())


def parameters(node):
    return [part.arg for part in node.args.args]


class Interface(unittest.TestCase):
    def test_classes_and_their_methods(self):
        for name, classes in CLASSES.items():
            nodes = {node.name: node for node in tree(name).body if isinstance(node, ast.ClassDef)}
            for title, methods in classes.items():
                found = {part.name: parameters(part)[1:] for part in nodes[title].body
                         if isinstance(part, ast.FunctionDef)}
                self.assertEqual({method: found.get(method) for method in methods}, methods, title)

    def test_functions(self):
        for name, functions in FUNCTIONS.items():
            found = {node.name: parameters(node) for node in tree(name).body if isinstance(node, ast.FunctionDef)}
            self.assertEqual({function: found.get(function) for function in functions}, functions)

    def test_everything_is_imported_from_where_it_is_defined(self):
        for name in [*CLASSES, *FUNCTIONS]:
            module = importlib.import_module(f"turnrota.{name}")
            for title in [*CLASSES.get(name, {}), *FUNCTIONS.get(name, {})]:
                self.assertEqual(getattr(module, title).__module__, f"turnrota.{name}")

    def test_read_is_a_class_method(self):
        rota = importlib.import_module("turnrota.rotas").Rota
        self.assertTrue(inspect.ismethod(rota.read))

    def test_init_is_empty_but_for_a_docstring(self):
        body = tree("__init__").body
        self.assertEqual(len(body), 1)
        self.assertIsInstance(body[0].value.value, str)


class Files(unittest.TestCase):
    def files(self):
        return [path for path in sorted(PACKAGE.iterdir()) if path.name != "__pycache__"]

    def test_there_are_only_modules(self):
        for path in self.files():
            self.assertTrue(path.is_file() and path.suffix == ".py", path)

    def test_sizes_and_characters(self):
        for path in self.files():
            lines = path.read_text(encoding="utf-8").split("\n")
            self.assertLessEqual(len(lines), 400, path)
            for line in lines:
                self.assertLessEqual(len(line), 120, path)
                self.assertTrue(all(" " <= letter <= "~" for letter in line), (path, line))

    def test_functions_are_short(self):
        for path in self.files():
            for node in ast.walk(ast.parse(path.read_text())):
                if isinstance(node, ast.FunctionDef):
                    self.assertLessEqual(node.end_lineno - node.lineno + 1, 40, (path, node.name))

    def test_imports_are_from_the_package(self):
        library = {"heapq", "math", "itertools"}
        for path in self.files():
            for node in ast.walk(ast.parse(path.read_text())):
                self.assertNotIsInstance(node, ast.Import, path)
                if isinstance(node, ast.ImportFrom):
                    self.assertTrue(node.module in library or node.module.startswith("turnrota."), (path, node.module))
