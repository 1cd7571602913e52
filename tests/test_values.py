"""Words, values and rows, and their order ([5])."""

import unittest
from itertools import permutations

from rightchance.values import compare_values, is_row, is_word, sorted_rows

HUGE = 10 ** 150
LETTERS = "abcdefghijklmnopqrstuvwxyz"
# All other characters that a string may have ([2]); "`" and "{" are those directly before a and behind z.
NO_LETTERS = [chr(code) for code in range(32, 127) if chr(code) not in LETTERS] + ["\n", "\t"]


class TestIsWord(unittest.TestCase):
    def test_words(self):
        for text in ("a", "z", "m", "ann", "zz", "table", LETTERS, "ab" * 5000):
            self.assertIs(is_word(text), True)

    def test_each_letter_alone(self):
        for letter in LETTERS:
            self.assertIs(is_word(letter), True)

    def test_the_empty_string(self):
        self.assertIs(is_word(""), False)

    def test_the_characters_beside_the_letters(self):
        self.assertEqual((chr(ord("a") - 1), chr(ord("z") + 1)), ("`", "{"))
        for sign in ("`", "{"):
            for text in (sign, sign + "a", "a" + sign, "a" + sign + "z"):
                self.assertIs(is_word(text), False, repr(text))

    def test_capitals_digits_blanks_and_the_like_at_any_place(self):
        for sign in NO_LETTERS:
            for text in (sign, sign + "ab", "a" + sign + "b", "ab" + sign, sign + sign):
                self.assertIs(is_word(text), False, repr(text))


class TestIsRow(unittest.TestCase):
    def test_rows(self):
        rows = ((), (0,), (-1,), (HUGE,), (-HUGE, HUGE), ("a",), ("ann", 3), (3, "ann", -7, "z"), (1, 1), ("a", "a"))
        for row in rows:
            self.assertIs(is_row(row), True, repr(row))

    def test_a_string_that_is_no_word(self):
        for text in ("", "A", "a b", " a", "a ", "a\n", "\ta", "7", "-1", "`", "{", "a1", "Ann"):
            for row in ((text,), (1, text), (text, 1), ("a", text, "b"), (text, text)):
                self.assertIs(is_row(row), False, repr(row))

    def test_rows_of_any_length(self):
        self.assertIs(is_row(tuple(range(1000))), True)
        self.assertIs(is_row(tuple(range(1000)) + ("B",)), False)


class TestCompareValues(unittest.TestCase):
    def check(self, left, right, expected):
        with self.subTest(left=left, right=right):
            self.assertEqual(compare_values(left, right), expected)
            self.assertEqual(compare_values(right, left), -expected)
            self.assertIs(type(compare_values(left, right)), int)

    def test_integers(self):
        self.check(1, 2, -1)
        self.check(-2, -1, -1)
        self.check(-1, 0, -1)
        self.check(9, 10, -1)
        self.check(7, 7, 0)
        self.check(HUGE, HUGE + 1, -1)
        self.check(-HUGE - 1, -HUGE, -1)
        self.check(HUGE, HUGE, 0)

    def test_integers_come_before_words(self):
        for number in (-HUGE, -1, 0, 1, 97, 1000, HUGE):
            for word in ("a", "z", "ann", LETTERS):
                self.check(number, word, -1)

    def test_words(self):
        self.check("a", "b", -1)
        self.check("ann", "bob", -1)
        self.check("b", "aa", 1)
        self.check("ann", "ann", 0)
        self.check("anna", "annb", -1)
        self.check("zz", "aaaa", 1)

    def test_a_word_that_begins_with_the_other(self):
        self.check("a", "aa", -1)
        self.check("ann", "anna", -1)
        self.check("z", "za", -1)

    def test_the_order_of_many_values(self):
        ascending = [-HUGE, -10, -2, 0, 3, 20, HUGE, "a", "aa", "ab", "b", "ba", "z", "za", "zz"]
        for i, left in enumerate(ascending):
            for j, right in enumerate(ascending):
                self.assertEqual(compare_values(left, right), (i > j) - (i < j))


class TestSortedRows(unittest.TestCase):
    def test_the_empty_list(self):
        self.assertEqual(sorted_rows([]), [])

    def test_the_empty_row(self):
        self.assertEqual(sorted_rows([()]), [()])
        self.assertEqual(sorted_rows([(), ()]), [()])
        self.assertEqual(sorted_rows([(0,), ()]), [(), (0,)])

    def test_the_first_value_that_differs_decides(self):
        rows = [(2, 1), (1, 9), (1, 2), ("a", 0), (1, "a"), ("a", -5)]
        self.assertEqual(sorted_rows(rows), [(1, 2), (1, 9), (1, "a"), (2, 1), ("a", -5), ("a", 0)])

    def test_integers_are_ordered_as_numbers(self):
        self.assertEqual(sorted_rows([(10,), (9,), (-9,), (-10,)]), [(-10,), (-9,), (9,), (10,)])
        self.assertEqual(sorted_rows([(HUGE,), (0,), (-HUGE,)]), [(-HUGE,), (0,), (HUGE,)])

    def test_a_row_that_another_one_begins_with(self):
        rows = [(1, "a", 0), (1,), (1, "a"), (), ("ab",), ("a", 5), ("a",)]
        self.assertEqual(sorted_rows(rows), [(), (1,), (1, "a"), (1, "a", 0), ("a",), ("a", 5), ("ab",)])

    def test_duplicates_are_left_out(self):
        rows = [(2,), (1,), (2,), (1,), (1,), ("a",), (2,)]
        self.assertEqual(sorted_rows(rows), [(1,), (2,), ("a",)])

    def test_rows_that_differ_stay_even_if_they_look_alike(self):
        self.assertEqual(sorted_rows([("a", "b"), ("ab",)]), [("a", "b"), ("ab",)])

    def test_every_order_of_the_same_rows(self):
        ascending = [(), (-1,), (-1, 4), (2,), ("a",), ("a", "a")]
        for rows in permutations(ascending):
            self.assertEqual(sorted_rows(list(rows)), ascending)

    def test_the_list_that_was_passed_is_unchanged(self):
        rows = [(2,), (1,), (2,)]
        result = sorted_rows(rows)
        self.assertEqual(rows, [(2,), (1,), (2,)])
        self.assertIsNot(result, rows)

    def test_a_change_of_the_returned_list_has_no_effect(self):
        rows = [(1,), (2,)]
        result = sorted_rows(rows)
        self.assertIs(type(result), list)
        result.append((3,))
        result[0] = ("z",)
        self.assertEqual(rows, [(1,), (2,)])
        self.assertEqual(sorted_rows(rows), [(1,), (2,)])
        again = sorted_rows([])
        again.append((0,))
        self.assertEqual(sorted_rows([]), [])


if __name__ == "__main__":
    unittest.main()
