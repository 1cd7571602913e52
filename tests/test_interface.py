"""The names and arguments of the interface, each in the file under which the document lists it."""

import importlib
import inspect
import unittest

import rightchance
from rightchance.book import Book

FUNCTIONS = {
    "shares": {
        "make_share": ["n", "d"],
        "is_share": ["pair"],
        "is_chance": ["pair"],
        "plus": ["share", "other"],
        "times": ["share", "other"],
        "compare_shares": ["share", "other"],
        "rest_of": ["chance"],
        "product_of": ["shares"],
        "any_of": ["chances"],
    },
    "values": {
        "is_word": ["text"],
        "is_row": ["row"],
        "compare_values": ["left", "right"],
        "sorted_rows": ["rows"],
    },
    "tables": {
        "check_schema": ["schema"],
        "is_place": ["schema", "name", "row"],
        "make_store": ["schema", "facts"],
        "chance_at": ["store", "name", "row"],
    },
    "questions": {
        "check_question": ["schema", "question"],
        "variables_of": ["join"],
        "is_simple": ["join"],
        "put_row": ["question", "row"],
    },
    "writing": {
        "write_book": ["schema", "store"],
        "write_question": ["question"],
        "write_circuit": ["circuit"],
        "write_plan": ["join", "plan"],
    },
    "reading": {
        "read_book": ["text"],
        "read_question": ["schema", "text"],
        "read_plan": ["join", "text"],
    },
    "worlds": {
        "count_worlds": ["store"],
        "world_at": ["store", "n"],
        "number_of": ["store", "world"],
        "chance_of_world": ["store", "world"],
    },
    "plainly": {
        "answers": ["places", "question"],
        "holds": ["places", "question"],
        "plain_chance": ["store", "question"],
    },
    "plans": {
        "is_plan": ["join", "plan"],
        "columns_of": ["join", "plan"],
        "atoms_beneath": ["plan"],
        "numbers_of": ["store", "join", "plan"],
        "number_of_plan": ["store", "join", "plan"],
    },
    "judging": {
        "unsafe_variables": ["join", "plan"],
        "is_right": ["join", "plan"],
        "parting_store": ["schema", "join", "plan"],
    },
    "comparing": {
        "added_variables": ["join", "plan"],
        "compare_plans": ["join", "plan", "other"],
        "store_above": ["schema", "join", "plan", "other"],
        "least_plans": ["join"],
    },
    "accounts": {
        "account_of": ["store", "join", "plan"],
        "first_excess": ["store", "join", "plan"],
    },
    "hierarchy": {
        "atoms_of": ["join", "variable"],
        "is_hierarchical": ["join"],
        "clash_of": ["join"],
        "right_plan": ["join"],
    },
    "bounds": {
        "plan_of_order": ["join", "order"],
        "best_order": ["store", "join"],
    },
    "lots": {
        "smallest_lots": ["store", "question"],
    },
    "circuits": {
        "make_circuit": ["store", "question"],
        "judge_circuit": ["store", "question", "circuit"],
        "number_of_circuit": ["store", "circuit"],
    },
    "chance": {
        "chance_of": ["store", "question"],
        "counts_of": ["store", "question"],
        "mean_of": ["store", "question"],
        "chances_of": ["store", "question"],
    },
    "influence": {
        "chance_if": ["store", "question", "name", "row", "there"],
        "influence_of": ["store", "question", "name", "row"],
        "chance_of_both": ["store", "question", "other"],
        "chance_given": ["store", "question", "other"],
        "best_world": ["store", "question"],
        "ranked_places": ["store", "question"],
    },
}
METHODS = {
    "book_text": [],
    "do": ["deeds"],
    "tell": ["name", "row", "chance"],
    "drop": ["name", "row"],
    "turn": ["name", "row", "chance"],
    "keep": ["question"],
    "question": ["number"],
    "forget": ["number"],
    "chances": ["number"],
    "why": ["number", "row"],
    "if_so": ["there", "missing", "number"],
    "undo": [],
    "redo": [],
    "bound": ["number"],
    "counts": ["number"],
    "mean": ["number"],
    "influences": ["number", "row"],
    "plan_number": ["number", "plan"],
    "papers": [],
}
CLASSES = {
    "errors": [
        "ChanceError",
        "NoSchema",
        "NoRow",
        "NoShare",
        "DoubleFact",
        "NoFact",
        "NoPlan",
        "NoChance",
        "NoQuestion",
        "BadText",
        "NoKept",
    ],
    "book": ["Book"],
}


class TestInterface(unittest.TestCase):
    def test_the_package_can_be_imported(self):
        self.assertEqual(rightchance.__name__, "rightchance")

    def test_functions_and_their_arguments(self):
        for file, functions in FUNCTIONS.items():
            module = importlib.import_module(f"rightchance.{file}")
            for name, arguments in functions.items():
                with self.subTest(file=file, name=name):
                    function = getattr(module, name)
                    self.assertTrue(inspect.isfunction(function))
                    self.assertEqual(function.__module__, f"rightchance.{file}")
                    self.check_arguments(function, arguments)

    def check_arguments(self, function, arguments):
        parameters = list(inspect.signature(function).parameters.values())
        self.assertEqual([parameter.name for parameter in parameters], arguments)
        for parameter in parameters:
            self.assertEqual(parameter.kind, inspect.Parameter.POSITIONAL_OR_KEYWORD)
            self.assertIs(parameter.default, inspect.Parameter.empty)

    def test_classes(self):
        for file, classes in CLASSES.items():
            module = importlib.import_module(f"rightchance.{file}")
            for name in classes:
                with self.subTest(file=file, name=name):
                    self.assertTrue(inspect.isclass(getattr(module, name)))
                    self.assertEqual(getattr(module, name).__module__, f"rightchance.{file}")

    def test_the_book(self):
        self.assertEqual(list(inspect.signature(Book).parameters), ["schema"])
        for name, arguments in METHODS.items():
            with self.subTest(name=name):
                self.assertTrue(inspect.isfunction(Book.__dict__[name]))
                self.check_arguments(getattr(Book(()), name), arguments)
        for name in ("book_schema", "whole_store"):
            self.assertIsInstance(Book.__dict__[name], property)
        self.assertIsInstance(Book.__dict__["of_text"], staticmethod)
        self.check_arguments(Book.of_text, ["text"])


if __name__ == "__main__":
    unittest.main()
