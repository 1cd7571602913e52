"""The names and arguments of the interface, each in the file under which the document lists it."""

import importlib
import inspect
import unittest

import rightchance

FUNCTIONS = {
    "shares": {
        "make_share": ["n", "d"],
        "is_share": ["pair"],
        "is_chance": ["pair"],
        "plus": ["share", "other"],
        "times": ["share", "other"],
        "compare_shares": ["share", "other"],
        "rest_of": ["chance"],
        "product_of": ["shares"],
        "any_of": ["chances"],
    },
    "values": {
        "is_word": ["text"],
        "is_row": ["row"],
        "compare_values": ["left", "right"],
        "sorted_rows": ["rows"],
    },
    "tables": {
        "check_schema": ["schema"],
        "is_place": ["schema", "name", "row"],
        "make_store": ["schema", "facts"],
        "chance_at": ["store", "name", "row"],
    },
    "questions": {
        "check_question": ["schema", "question"],
        "variables_of": ["join"],
        "is_simple": ["join"],
        "put_row": ["question", "row"],
    },
    "writing": {
        "write_book": ["schema", "store"],
        "write_question": ["question"],
        "write_circuit": ["circuit"],
        "write_plan": ["join", "plan"],
    },
    "reading": {
        "read_book": ["text"],
        "read_question": ["schema", "text"],
        "read_plan": ["join", "text"],
    },
    "worlds": {
        "count_worlds": ["store"],
        "world_at": ["store", "n"],
        "number_of": ["store", "world"],
        "chance_of_world": ["store", "world"],
    },
    "plainly": {
        "answers": ["places", "question"],
        "holds": ["places", "question"],
        "plain_chance": ["store", "question"],
    },
    "plans": {
        "is_plan": ["join", "plan"],
        "columns_of": ["join", "plan"],
        "atoms_beneath": ["plan"],
        "numbers_of": ["store", "join", "plan"],
        "number_of_plan": ["store", "join", "plan"],
    },
    "judging": {
        "unsafe_variables": ["join", "plan"],
        "is_right": ["join", "plan"],
        "parting_store": ["schema", "join", "plan"],
        "right_plan": ["join"],
    },
    "hierarchy": {
        "right_plan": ["join"],
    },
    "bounds": {
        "plan_of_order": ["join", "order"],
        "best_order": ["store", "join"],
    },
}
CLASSES = {
    "errors": [
        "ChanceError",
        "NoSchema",
        "NoRow",
        "NoShare",
        "DoubleFact",
        "NoFact",
        "NoPlan",
        "NoChance",
        "NoQuestion",
        "BadText",
        "NoKept",
    ],
}


class TestInterface(unittest.TestCase):
    def test_the_package_can_be_imported(self):
        self.assertEqual(rightchance.__name__, "rightchance")

    def test_functions_and_their_arguments(self):
        for file, functions in FUNCTIONS.items():
            module = importlib.import_module(f"rightchance.{file}")
            for name, arguments in functions.items():
                with self.subTest(file=file, name=name):
                    function = getattr(module, name)
                    self.assertTrue(inspect.isfunction(function))
                    self.assertEqual(function.__module__, f"rightchance.{file}")
                    self.check_arguments(function, arguments)

    def check_arguments(self, function, arguments):
        parameters = list(inspect.signature(function).parameters.values())
        self.assertEqual([parameter.name for parameter in parameters], arguments)
        for parameter in parameters:
            self.assertEqual(parameter.kind, inspect.Parameter.POSITIONAL_OR_KEYWORD)
            self.assertIs(parameter.default, inspect.Parameter.empty)

    def test_classes(self):
        for file, classes in CLASSES.items():
            module = importlib.import_module(f"rightchance.{file}")
            for name in classes:
                with self.subTest(file=file, name=name):
                    self.assertTrue(inspect.isclass(getattr(module, name)))
                    self.assertEqual(getattr(module, name).__module__, f"rightchance.{file}")


if __name__ == "__main__":
    unittest.main()
