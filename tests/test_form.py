"""The form of the package: sizes, characters and imports (LANGUAGE.md), and the interface (DOC.md)."""

import ast
import doctest
import importlib
import inspect
import pathlib
import re
import unittest

import skypasses

PACKAGE = pathlib.Path(skypasses.__file__).parent
LIBRARY = {"heapq", "math", "itertools", "collections", "__future__"}

# The functions of the interface, with their parameters as the document writes them.
INTERFACE = {
    "skypasses.skies": [
        "check_sky(sky)",
        "end_of(sky, look)",
        "turning(sky, first, second)",
        "emptied(sky, amount, *, since, until)",
        "wrong_in(sky, names)",
        "is_plan(sky, names)",
        "worth_of(sky, names)",
        "levels(sky, plan)",
    ],
    "skypasses.rings": [
        "place_of(ring, satellite, time)",
        "way(ring, first, second)",
        "sees(ring, satellite, cell, time)",
        "passes(ring, satellite, cell, *, horizon)",
        "period(ring, fleet)",
        "greatest_gap(ring, fleet, cell)",
        "seen_by(ring, fleet, *, horizon)",
        "looks_of(ring, satellite, wishes)",
    ],
    "skypasses.texts": [
        "write_sky(sky)",
        "read_sky(text)",
        "write_plan(names)",
        "read_plan(sky, text)",
        "report(sky, plan)",
    ],
    "skypasses.best": [
        "state_behind(sky, plan)",
        "next_looks(sky, state)",
        "after_look(sky, state, look)",
        "rest_of(sky, state)",
        "best_next(sky, state)",
        "best_worth(sky)",
        "best_plan(sky)",
        "best_plans(sky, *, most)",
        "count_plans(sky)",
        "count_best(sky)",
        "table_of(sky)",
        "is_table(sky, table)",
        "shows_best(sky, plan, table)",
    ],
    "skypasses.fleets": [
        "check_fleet(fleet)",
        "is_fleet_plan(fleet, plans)",
        "whose(fleet, plans)",
        "fleet_worth(fleet)",
        "fleet_plan(fleet)",
        "count_fleet_best(fleet)",
        "skies_for(fleet, wish)",
        "loss_of(fleet, sky)",
        "fleet_table(fleet)",
        "is_fleet_table(fleet, table)",
        "shows_fleet_best(fleet, plans, table)",
    ],
    "skypasses.failing": [
        "without_ears(sky, names)",
        "first_states(sky, *, most)",
        "moves_of(sky, state)",
        "gain_of(sky, state, move)",
        "states_behind(sky, state, move, *, most)",
        "sure_worth(sky, *, most)",
        "sure_table(sky, *, most)",
        "sure_rule(sky, *, most)",
        "is_sure_lower(sky, rows, *, most)",
        "is_sure_upper(sky, rows, *, most)",
        "taken_by(sky, rule, failing)",
        "least_worth(sky, rule, *, most)",
        "worst_failing(sky, rule, *, most)",
    ],
    "skypasses.chances": [
        "check_chances(sky, chances)",
        "chance_of(chances, failing)",
        "mean_worth(sky, chances)",
        "mean_table(sky, chances)",
        "is_mean_lower(sky, chances, rows)",
        "is_mean_upper(sky, chances, rows)",
        "mean_of(sky, rule, chances)",
    ],
    "skypasses.room": [
        "is_timely(sky, names)",
        "need_of(sky, names)",
        "need_for(sky, worth)",
        "steps(sky)",
        "gain_of_room(sky, more)",
        "idle_ears(sky)",
        "fewest_ears(sky)",
    ],
    "skypasses.clashes": [
        "can_be_had(sky, wishes)",
        "plan_for(sky, wishes)",
        "full_sets(sky)",
        "clashes(sky)",
        "standing(sky, wish)",
        "price(sky, wish)",
        "ways_to_have(sky, wishes)",
    ],
    "skypasses.late": [
        "plans_on(sky, *, now=0, begun=())",
        "can_keep(sky, promises, *, now=0, begun=())",
        "best_keeping(sky, promises, *, now=0, begun=())",
        "clash_of(sky, promises, wish, *, now=0, begun=())",
        "loss_of(sky, promises, *, now=0, begun=())",
        "forced_looks(sky, promises, *, now=0, begun=())",
        "open_looks(sky, promises, *, now=0, begun=())",
        "last_call(sky, promises, wish, *, now=0, begun=())",
        "with_late(sky, worth, looks, *, now)",
        "answer_late(sky, promises, worth, looks, *, now=0, begun=())",
        "go_through(sky, promises, arrivals)",
    ],
    "skypasses.changes": [
        "without_look(sky, look)",
        "with_look(sky, look)",
        "losses(sky)",
        "line_of(sky, wish)",
        "threshold(sky, wish)",
        "mirrored(sky)",
        "moved(sky, by)",
        "turned_back(sky)",
        "scaled(sky, by)",
    ],
    "skypasses.console": [
        "replay(sky, journal)",
    ],
}

# The methods of the console, and its properties.
METHODS = [
    "__init__(self, sky)",
    "go(self, time)",
    "wish(self, worth, looks)",
    "promise(self, wish)",
    "release(self, wish)",
    "lose(self, ear)",
    "undo(self)",
    "redo(self)",
    "do_all(self, deeds)",
    "what_if(self, deeds)",
    "sky(self)",
    "begun(self)",
    "promises(self)",
    "plan(self)",
    "worth(self)",
    "journal(self)",
    "__len__(self)",
]
PROPERTIES = ["now", "can_undo", "can_redo"]


def files():
    return sorted(PACKAGE.rglob("*.py"))


def trees():
    return [(path, ast.parse(path.read_text(encoding="utf-8"))) for path in files()]


class Form(unittest.TestCase):
    def test_there_are_only_python_files_with_plain_names(self):
        self.assertTrue((PACKAGE / "__init__.py").is_file())
        for path in PACKAGE.rglob("*"):
            if path.is_file() and path.parent.name != "__pycache__":
                self.assertRegex(path.name, r"^[a-z0-9_]+\.py$")

    def test_lengths_of_files_and_lines(self):
        for path in files():
            lines = path.read_text(encoding="utf-8").split("\n")
            self.assertLessEqual(len(lines), 399, path.name)
            for number, line in enumerate(lines, start=1):
                self.assertLessEqual(len(line), 120, f"{path.name}:{number}")

    def test_lengths_of_functions(self):
        for path, tree in trees():
            for node in ast.walk(tree):
                if isinstance(node, ast.FunctionDef):
                    self.assertLessEqual(node.end_lineno - node.lineno + 1, 40, f"{path.name}: {node.name}")

    def test_characters(self):
        for path in files():
            self.assertIsNone(re.search(rb"[^\n -~]", path.read_bytes()), path.name)

    def test_imports(self):
        for path, tree in trees():
            for node in ast.walk(tree):
                self.assertNotIsInstance(node, ast.Import, path.name)
                if isinstance(node, ast.ImportFrom):
                    self.assertEqual(node.level, 0, path.name)
                    self.assertIn(node.module.split(".")[0], LIBRARY | {"skypasses"}, path.name)
                    self.assertNotIn("*", [name.name for name in node.names], path.name)


class Interface(unittest.TestCase):
    def test_functions_and_their_parameters(self):
        for module, told in INTERFACE.items():
            for line in told:
                with self.subTest(module + "." + line):
                    function = getattr(importlib.import_module(module), line.split("(")[0])
                    self.assertEqual(function.__name__ + str(inspect.signature(function)), line)
                    self.assertEqual(function.__module__, module)

    def test_methods_and_properties_of_the_console(self):
        console = importlib.import_module("skypasses.console").Console
        self.assertEqual(console.__module__, "skypasses.console")
        for line in METHODS:
            method = vars(console)[line.split("(")[0]]
            self.assertEqual(method.__name__ + str(inspect.signature(method)), line)
        for name in PROPERTIES:
            self.assertIsInstance(vars(console)[name], property)

    def test_the_examples_of_the_readme(self):
        text = (PACKAGE.parent / "README.md").read_text(encoding="utf-8").replace("```", "")
        example = doctest.DocTestParser().get_doctest(text, {}, "README.md", "README.md", 0)
        self.assertGreater(len(example.examples), 20)
        self.assertEqual(doctest.DocTestRunner(verbose=False).run(example).failed, 0)


if __name__ == "__main__":
    unittest.main()
