"""[2]: what holds for all functions of the interface, and that each is where the document lists it."""

import ast
import copy
import importlib
import inspect
import unittest
from math import gcd
from pathlib import Path

from newtables.errors import HallError

PACKAGE = Path(__file__).resolve().parent.parent / "newtables"

# For each file its functions with their arguments and one valid call.
SEATING = [1, 3, 2, 0]
INTERFACE = {
    "seatings": {
        "is_seating": {"thing": SEATING},
        "tables_of": {"seating": SEATING},
        "seating_of": {"tables": [(0, 1, 3), (2,)]},
        "table_from": {"seating": SEATING, "guest": 1},
        "right_of": {"seating": SEATING, "guest": 1},
        "steps_left": {"seating": SEATING, "guest": 1, "number": -5},
        "are_together": {"seating": SEATING, "guest": 1, "mate": 3},
        "mirrored": {"seating": SEATING},
        "renamed": {"seating": SEATING, "names": [3, 1, 0, 2]},
        "record_list": {"seating": SEATING},
        "seating_of_records": {"names": [2, 0, 1, 3]},
    },
    "comings": {
        "is_coming": {"thing": [0, 0, 2, 1]},
        "coming_of": {"seating": SEATING},
        "seating_by": {"coming": [0, 0, 2, 1]},
        "openers_of": {"seating": SEATING},
        "hall_of": {"coming": [0, 0, 2, 1], "number": 3},
    },
    "weights": {
        "total_weight": {"guests": 4, "weight": 2},
        "seating_share": {"seating": SEATING, "weight": 2},
        "tables_share": {"guests": 4, "weight": 2, "number": 2},
        "mean_tables": {"guests": 4, "weight": 2},
        "likeliest_tables": {"guests": 2, "weight": 1},
        "best_weights": {"guests": 4, "number": 3},
    },
}
FRACTIONS = ["seating_share", "tables_share", "mean_tables"]

# Valid calls whose answers could be the very list that was passed.
CALLS_THAT_CHANGE_NOTHING = [
    ("seatings", "mirrored", [0, 1, 2]), ("seatings", "renamed", [0, 1, 2], [0, 1, 2]),
    ("seatings", "record_list", [1, 2, 0]), ("seatings", "seating_of_records", [2, 1, 0]),
    ("comings", "coming_of", [0, 1, 2]), ("comings", "seating_by", [0, 1, 2]),
    ("comings", "openers_of", [0, 1, 2]), ("comings", "hall_of", [0, 1, 2], 3),
    ("seatings", "tables_of", [0, 1]), ("seatings", "seating_of", [(0,), (1,)]),
]

# Of several wrong arguments the first one decides, whatever follows.
WRONG_CALLS = [
    ("seatings", "table_from", "InvalidSeating", [0, 0], 9), ("seatings", "table_from", "InvalidGuest", [0], 9),
    ("seatings", "steps_left", "InvalidSeating", [True], 9, True),
    ("seatings", "steps_left", "InvalidGuest", [0], 9, True),
    ("seatings", "steps_left", "InvalidNumber", [0], 0, True),
    ("seatings", "are_together", "InvalidSeating", (0,), 9, 9),
    ("seatings", "are_together", "InvalidGuest", [0], 9, 9),
    ("seatings", "renamed", "InvalidSeating", [], []), ("seatings", "renamed", "InvalidNames", [0], []),
    ("comings", "hall_of", "InvalidComing", [1], 0), ("comings", "hall_of", "InvalidNumber", [0], 0),
    ("weights", "total_weight", "InvalidGuests", 0, 0), ("weights", "total_weight", "InvalidWeight", 1, 0),
    ("weights", "seating_share", "InvalidSeating", [2], 0), ("weights", "seating_share", "InvalidWeight", [0], 0),
    ("weights", "tables_share", "InvalidGuests", 0, 0, -1),
    ("weights", "tables_share", "InvalidWeight", 1, 0, -1),
    ("weights", "tables_share", "InvalidNumber", 1, 1, -1),
    ("weights", "mean_tables", "InvalidGuests", 21, 0), ("weights", "likeliest_tables", "InvalidGuests", 21, 0),
    ("weights", "best_weights", "InvalidGuests", 0, 0), ("weights", "best_weights", "InvalidNumber", 1, 0),
]


def function_of(file, name):
    return getattr(importlib.import_module("newtables." + file), name)


def all_calls():
    return [(file, name, arguments) for file, names in INTERFACE.items() for name, arguments in names.items()]


def lists_in(value):
    """The ids of all lists in a value, also of those inside others."""
    if not isinstance(value, (list, tuple)):
        return []
    own = [id(value)] if isinstance(value, list) else []
    return own + [one for item in value for one in lists_in(item)]


class InterfaceTest(unittest.TestCase):

    def test_functions_are_defined_in_their_file_with_their_arguments(self):
        for file, names in INTERFACE.items():
            tree = ast.parse((PACKAGE / (file + ".py")).read_text())
            defined = {node.name for node in tree.body if isinstance(node, ast.FunctionDef)}
            for name, arguments in names.items():
                with self.subTest(name=name):
                    self.assertIn(name, defined)
                    signature = inspect.signature(function_of(file, name))
                    self.assertEqual(list(signature.parameters), list(arguments))

    def test_arguments_by_position_and_by_name(self):
        for file, name, arguments in all_calls():
            with self.subTest(name=name):
                function = function_of(file, name)
                by_name = function(**arguments)
                self.assertEqual(function(*arguments.values()), by_name)
                turned = dict(reversed(list(arguments.items())))
                self.assertEqual(function(**turned), by_name)


class ArgumentsAndResultsTest(unittest.TestCase):

    def test_arguments_stay_as_they_were(self):
        for file, name, arguments in all_calls():
            with self.subTest(name=name):
                passed = copy.deepcopy(arguments)
                function_of(file, name)(**passed)
                self.assertEqual(passed, arguments)

    def test_arguments_of_failing_calls_stay_as_they_were(self):
        for file, name, _, *arguments in WRONG_CALLS:
            passed = copy.deepcopy(arguments)
            with self.assertRaises(HallError):
                function_of(file, name)(*passed)
            self.assertEqual(passed, arguments)

    def test_returned_lists_are_new(self):
        calls = [(file, name, list(arguments.values())) for file, name, arguments in all_calls()]
        calls += [(file, name, arguments) for file, name, *arguments in CALLS_THAT_CHANGE_NOTHING]
        for file, name, arguments in calls:
            with self.subTest(name=name):
                function = function_of(file, name)
                first = function(*arguments)
                second = function(*arguments)
                self.assertEqual(first, second)
                ids = lists_in(first) + lists_in(second) + lists_in(arguments)
                self.assertEqual(len(ids), len(set(ids)))

    def test_a_changed_answer_does_not_change_the_next_one(self):
        for file, name, arguments in all_calls():
            answer = function_of(file, name)(**arguments)
            if isinstance(answer, list):
                kept = copy.deepcopy(answer)
                answer.clear()
                self.assertEqual(function_of(file, name)(**arguments), kept)

    def test_fractions_are_tuples_without_a_common_divisor(self):
        for name in FRACTIONS:
            answer = function_of("weights", name)(**INTERFACE["weights"][name])
            self.assertIs(type(answer), tuple)
            self.assertEqual([type(part) for part in answer], [int, int])
            self.assertEqual(gcd(*answer), 1)
            self.assertGreaterEqual(answer[1], 1)

    def test_answers_that_are_truths_are_booleans(self):
        for name in ("is_seating", "are_together"):
            self.assertIs(function_of("seatings", name)(**INTERFACE["seatings"][name]), True)
        self.assertIs(function_of("comings", "is_coming")([0, 1, 2]), True)

    def test_answers_may_be_passed_back(self):
        shares = function_of("weights", "total_weight")(20, 10 ** 12)
        self.assertEqual(function_of("seatings", "steps_left")([1, 0], 0, shares), 0)
        self.assertIs(function_of("seatings", "is_seating")(function_of("weights", "mean_tables")(3, 2)), False)


class ErrorsTest(unittest.TestCase):

    def test_the_first_wrong_argument_decides(self):
        for file, name, error, *arguments in WRONG_CALLS:
            with self.subTest(name=name, error=error):
                with self.assertRaises(HallError) as caught:
                    function_of(file, name)(*arguments)
                self.assertEqual(type(caught.exception).__name__, error)

    def test_the_first_wrong_argument_decides_by_name_too(self):
        for file, name, error, *arguments in WRONG_CALLS:
            with self.subTest(name=name, error=error):
                named = dict(zip(INTERFACE[file][name], arguments))
                with self.assertRaises(HallError) as caught:
                    function_of(file, name)(**dict(reversed(list(named.items()))))
                self.assertEqual(type(caught.exception).__name__, error)


class FolderTest(unittest.TestCase):

    def test_the_folder_holds_python_files_alone(self):
        names = [path.name for path in PACKAGE.iterdir() if path.name != "__pycache__"]
        self.assertIn("__init__.py", names)
        self.assertEqual([name for name in names if not name.endswith(".py")], [])


if __name__ == "__main__":
    unittest.main()
