"""The error classes of the interface."""

import unittest

from rightchance import errors
from rightchance.errors import BadText, ChanceError, NoKept, NoQuestion

PLAIN = ("NoSchema", "NoRow", "NoShare", "DoubleFact", "NoFact", "NoPlan", "NoChance")
WITH_ATTRIBUTES = ("NoQuestion", "BadText", "NoKept")


class TestClasses(unittest.TestCase):
    def test_the_base_class_is_directly_under_value_error(self):
        self.assertEqual(ChanceError.__bases__, (ValueError,))

    def test_each_class_is_directly_under_the_base_class(self):
        for name in PLAIN + WITH_ATTRIBUTES:
            with self.subTest(name):
                self.assertEqual(getattr(errors, name).__bases__, (ChanceError,))

    def test_no_class_is_under_another_one(self):
        for name in PLAIN + WITH_ATTRIBUTES:
            for other in PLAIN + WITH_ATTRIBUTES:
                with self.subTest(name, other=other):
                    under = issubclass(getattr(errors, name), getattr(errors, other))
                    self.assertEqual(under, name == other)

    def test_the_plain_ones_can_be_raised_and_caught(self):
        for name in PLAIN:
            with self.subTest(name):
                with self.assertRaises(ChanceError) as caught:
                    raise getattr(errors, name)("why")
                self.assertIs(type(caught.exception), getattr(errors, name))
                self.assertIsInstance(caught.exception, ValueError)


class TestAttributes(unittest.TestCase):
    def test_no_question_has_the_index_of_the_join_or_none(self):
        self.assertEqual(NoQuestion(3).join, 3)
        self.assertEqual(NoQuestion(0).join, 0)
        self.assertIsNone(NoQuestion(None).join)

    def test_bad_text_has_the_line_and_the_place_in_it(self):
        error = BadText(1, 7)
        self.assertEqual((error.line, error.at), (1, 7))
        named = BadText(line=0, at=12)
        self.assertEqual((named.line, named.at), (0, 12))

    def test_no_kept_has_the_number_that_was_passed(self):
        self.assertEqual(NoKept(12).number, 12)
        self.assertEqual(NoKept(-1).number, -1)
        self.assertEqual(NoKept(10 ** 200).number, 10 ** 200)

    def test_the_attributes_are_there_where_the_error_is_caught(self):
        with self.assertRaises(ChanceError) as caught:
            raise BadText(2, 5)
        self.assertEqual((caught.exception.line, caught.exception.at), (2, 5))


if __name__ == "__main__":
    unittest.main()
