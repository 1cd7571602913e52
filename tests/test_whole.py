"""What holds for all functions together ([2]): nothing that is passed changes, and results share nothing changeable."""

import random
import unittest

from rightchance import (
    accounts, bounds, chance, circuits, comparing, hierarchy, influence, judging, lots, plainly, plans, questions,
    reading, shares, tables, values, worlds, writing,
)
from rightchance.book import Book
from tests.oracles import LINKED, full_store, random_case, random_plan, schema_of

SCHEMA = (("r", 2), ("s", 1), ("t", 0))


def is_frozen(thing):
    """Tell if a thing is made of tuples, integers, strings and None, and of nothing else; True is no integer here."""
    if type(thing) is tuple:
        return all([is_frozen(part) for part in thing])
    return type(thing) in (int, str, type(None))


class TestResults(unittest.TestCase):
    def check(self, function, *arguments):
        found = function(*arguments)
        with self.subTest(function=function.__name__, arguments=arguments):
            self.assertTrue(is_frozen(found), found)
            self.assertEqual(function(*arguments), found)
        return found

    def check_truth(self, function, *arguments):
        found = function(*arguments)
        self.assertIs(type(found), bool)
        self.assertIs(function(*arguments), found)

    def test_functions_of_stores_and_questions(self):
        source = random.Random(131)
        for _ in range(25):
            store, question = random_case(source, 6, 1)
            places = tuple([fact[:2] for fact in store])
            closed = questions.put_row(question, (1,))
            other = random_case(source, 6)[1]
            for function in (chance.chances_of, chance.counts_of, chance.mean_of):
                self.check(function, store, question)
            for function in (
                chance.chance_of, plainly.plain_chance, lots.smallest_lots, influence.best_world,
                influence.ranked_places,
            ):
                self.check(function, store, closed)
            self.check(influence.chance_of_both, store, closed, other)
            self.check(plainly.answers, places, question)
            self.check_truth(plainly.holds, places, closed)
            self.check(questions.put_row, question, (1,))
            circuit = self.check(circuits.make_circuit, store, closed)
            self.check_truth(circuits.judge_circuit, store, closed, circuit)
            self.check(circuits.number_of_circuit, store, circuit)
            self.check(writing.write_circuit, circuit)
            self.check(writing.write_question, question)
            for name, row in places:
                self.check(influence.influence_of, store, closed, name, row)
                self.check(influence.chance_if, store, closed, name, row, 0)
            self.check(worlds.count_worlds, store)
            self.check(worlds.chance_of_world, store, self.check(worlds.world_at, store, 0))
            self.check(reading.read_book, self.check(writing.write_book, SCHEMA, store))

    def test_functions_of_joins_and_plans(self):
        source = random.Random(132)
        for join in LINKED * 4:
            schema = schema_of(join)
            store = full_store(source, schema, 8)
            plan, other = random_plan(source, join), random_plan(source, join)
            for function in (plans.columns_of, judging.unsafe_variables, comparing.added_variables, writing.write_plan):
                self.check(function, join, plan)
            for function in (plans.numbers_of, plans.number_of_plan, accounts.account_of, accounts.first_excess):
                self.check(function, store, join, plan)
            self.check(plans.atoms_beneath, plan)
            self.check(judging.parting_store, schema, join, plan)
            self.check(comparing.store_above, schema, join, plan, other)
            self.check(comparing.compare_plans, join, plan, other)
            self.check(comparing.least_plans, join)
            self.check(hierarchy.clash_of, join)
            self.check(hierarchy.atoms_of, join, "x")
            self.check_truth(hierarchy.is_hierarchical, join)
            self.check_truth(plans.is_plan, join, plan)
            self.check_truth(judging.is_right, join, plan)
            order = self.check(bounds.best_order, store, join)[0]
            self.check(bounds.plan_of_order, join, order)
            self.check(questions.variables_of, join)
            self.check_truth(questions.is_simple, join)
        self.check(hierarchy.right_plan, ((), LINKED[0][1][:2]))

    def test_the_book(self):
        book = Book(SCHEMA)
        book.do([("tell", "r", (1, "a"), (1, 2)), ("tell", "s", ("a",), (1, 3))])
        number = book.keep(reading.read_question(SCHEMA, "[x] r(y, x), s(x)"))
        closed = book.keep(reading.read_question(SCHEMA, "[] r(y, x), s(x)"))
        book.turn("s", ("a",), (2, 3))
        for found in (
            book.book_schema, book.whole_store, book.book_text(), number, book.question(number), book.chances(number),
            book.papers(), book.why(number, ("a",)), book.if_so([], [], number), book.bound(closed),
            book.counts(number), book.mean(number), book.influences(number, ("a",)),
        ):
            self.assertTrue(is_frozen(found), found)
        for call in (
            lambda: book.do([]), lambda: book.drop("s", ("a",)), lambda: book.tell("s", ("a",), (1, 2)),
            lambda: book.turn("s", ("a",), (1, 2)), lambda: book.forget(number),
        ):
            self.assertIsNone(call())
        self.assertIs(type(book.undo()), bool)

    def test_lists_that_are_passed(self):
        for function, arguments in (
            (shares.product_of, ([(1, 2), (2, 3)],)),
            (shares.any_of, ([(1, 2), (2, 3)],)),
            (values.sorted_rows, ([(2,), (1,), (2,)],)),
            (tables.make_store, (SCHEMA, [("s", (2,), (1, 2)), ("s", (1,), (1, 3))])),
        ):
            passed = arguments[-1]
            before = list(passed)
            found = function(*arguments)
            self.assertEqual(passed, before)
            kept = list(found)
            passed.clear()
            self.assertEqual(list(found), kept)
        first = values.sorted_rows([(1,)])
        first.append((0,))
        self.assertEqual(values.sorted_rows([(1,)]), [(1,)])


if __name__ == "__main__":
    unittest.main()
