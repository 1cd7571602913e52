"""The examples of the document, for the modules that are there."""

import unittest

from rightchance.errors import BadText
from rightchance.reading import read_book, read_plan, read_question
from rightchance.shares import any_of, make_share


class TestExamples(unittest.TestCase):
    def test_shares(self):
        self.assertEqual((make_share(6, 8), any_of([(1, 2), (1, 2)])), ((3, 4), (3, 4)))

    def test_reading_a_book(self):
        book = ((("r", 1),), (("r", (1,), (1, 2)), ("r", (2,), (1, 3))))
        self.assertEqual(read_book("table r 1\nr(1) 1/2\nr(2) 1/3"), book)

    def test_reading_a_book_with_a_fault(self):
        with self.assertRaises(BadText) as caught:
            read_book("table r 1\nr(1) 2/4")
        self.assertEqual((caught.exception.line, caught.exception.at), (1, 7))

    def test_reading_a_plan(self):
        join = read_question((("r", 1), ("s", 1)), "[] r(x), s(y)")[1][0]
        plan = ("project", "x", ("project", "y", ("join", (("scan", 0), ("scan", 1)))))
        self.assertEqual(read_plan(join, "!x !y [r(x) * s(y)]"), plan)


if __name__ == "__main__":
    unittest.main()
