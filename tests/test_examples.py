"""The examples of the document."""

import unittest

from rightchance.book import Book
from rightchance.bounds import plan_of_order
from rightchance.chance import chance_of
from rightchance.circuits import judge_circuit, number_of_circuit
from rightchance.errors import BadText
from rightchance.hierarchy import clash_of
from rightchance.influence import best_world, chance_if, influence_of
from rightchance.judging import is_right, unsafe_variables
from rightchance.lots import smallest_lots
from rightchance.plans import number_of_plan
from rightchance.reading import read_book, read_plan, read_question
from rightchance.shares import any_of, make_share


class TestExamples(unittest.TestCase):
    def test_shares(self):
        self.assertEqual((make_share(6, 8), any_of([(1, 2), (1, 2)])), ((3, 4), (3, 4)))

    def test_reading_a_book(self):
        book = ((("r", 1),), (("r", (1,), (1, 2)), ("r", (2,), (1, 3))))
        self.assertEqual(read_book("table r 1\nr(1) 1/2\nr(2) 1/3"), book)

    def test_reading_a_book_with_a_fault(self):
        with self.assertRaises(BadText) as caught:
            read_book("table r 1\nr(1) 2/4")
        self.assertEqual((caught.exception.line, caught.exception.at), (1, 7))

    def test_the_chance_of_a_question(self):
        store = (("r", (1,), (1, 2)), ("r", (2,), (1, 3)))
        self.assertEqual(chance_of(store, read_question((("r", 1),), "[] r(x)")), (2, 3))

    def test_reading_a_plan(self):
        join = read_question((("r", 1), ("s", 1)), "[] r(x), s(y)")[1][0]
        plan = ("project", "x", ("project", "y", ("join", (("scan", 0), ("scan", 1)))))
        self.assertEqual(read_plan(join, "!x !y [r(x) * s(y)]"), plan)

    def test_the_numbers_of_plans(self):
        join = read_question((("r", 1), ("s", 1)), "[] r(x), s(y)")[1][0]
        store = (("r", (1,), (1, 2)), ("s", (1,), (1, 1)), ("s", (2,), (1, 1)))
        self.assertEqual(number_of_plan(store, join, read_plan(join, "!x !y [r(x) * s(y)]")), (3, 4))
        self.assertEqual(number_of_plan(store, join, read_plan(join, "[!x r(x) * !y s(y)]")), (1, 2))

    def test_judging_plans(self):
        join = read_question((("r", 1), ("s", 1)), "[] r(x), s(y)")[1][0]
        plan = read_plan(join, "!x !y [r(x) * s(y)]")
        judged = (unsafe_variables(join, plan), is_right(join, plan))
        self.assertEqual(judged, (("x", "y"), False))
        self.assertIs(is_right(join, read_plan(join, "[!x r(x) * !y s(y)]")), True)

    def test_a_clash(self):
        schema = (("r", 1), ("s", 2), ("t", 1))
        join = read_question(schema, "[] r(x), s(x, y), t(y)")[1][0]
        self.assertEqual(clash_of(join), ("x", "y", 0, 1, 2))

    def test_the_plan_of_an_order(self):
        schema = (("r", 1), ("s", 2), ("t", 1))
        join = read_question(schema, "[] r(x), s(x, y), t(y)")[1][0]
        plan = ("project", "x", ("join", (("scan", 0), ("project", "y", ("join", (("scan", 1), ("scan", 2)))))))
        self.assertEqual(plan_of_order(join, ("y", "x")), plan)

    def test_smallest_lots(self):
        schema = (("r", 1), ("s", 2))
        store = (("r", (1,), (1, 2)), ("r", (2,), (1, 2)), ("s", (1, 5), (1, 3)))
        lots = smallest_lots(store, read_question(schema, "[] r(x), s(x, y)"))
        self.assertEqual(lots, ((("r", (1,)), ("s", (1, 5))),))

    def test_circuits(self):
        store = (("r", (1,), (1, 2)), ("r", (2,), (1, 3)))
        circuit = ("any", (("fact", "r", (1,)), ("fact", "r", (2,))))
        self.assertIs(judge_circuit(store, read_question((("r", 1),), "[] r(x)"), circuit), True)
        self.assertEqual(number_of_circuit(store, circuit), (2, 3))

    def test_influences(self):
        store = (("r", (1,), (1, 2)), ("r", (2,), (1, 3)))
        question = read_question((("r", 1),), "[] r(x)")
        self.assertEqual(chance_if(store, question, "r", (1,), 0), (1, 3))
        self.assertEqual(influence_of(store, question, "r", (1,)), (2, 3))
        self.assertEqual(best_world(store, question), (("r", (1,)),))

    def test_the_book(self):
        book = Book((("r", 1),))
        number = book.keep(read_question((("r", 1),), "[x] r(x)"))
        self.assertIsNone(book.tell("r", (1,), (1, 2)))
        self.assertIsNone(book.turn("r", (1,), (2, 3)))
        self.assertEqual(book.chances(number), (((1,), (2, 3)),))
        self.assertEqual(book.papers(), ((1, (((1,), (1, 2), (2, 3)),)),))


if __name__ == "__main__":
    unittest.main()
