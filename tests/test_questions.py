"""Terms, atoms, joins and questions ([8] to [10]), and a row that is put into one ([12])."""

import unittest
from itertools import product

from rightchance.errors import ChanceError, NoQuestion
from rightchance.questions import check_question, is_simple, put_row, variables_of

HUGE = 10 ** 150
NO_WORDS = ("", "A", "Works", "works2", "a b", " a", "a ", "a\n", "\ta", "`", "{", "7", "r(x)", "\"a\"")
SCHEMA = (("open", 1), ("rain", 0), ("wide", 8), ("works", 2))


def var(x):
    return ("var", x)


def value(v):
    return ("value", v)


def variables(names):
    return tuple([var(name) for name in names])


RAIN = ("rain", ())
OPEN = ("open", (var("x"),))
WORKS = ("works", (var("x"), var("y")))
CLOSED = ((), (OPEN,))
# A join of width 0 that is not valid.
BAD = ((), (("open", ()),))


class TestCheckQuestion(unittest.TestCase):
    def check(self, question, schema=SCHEMA):
        with self.subTest(question=question):
            self.assertIsNone(check_question(schema, question))

    def check_fails(self, join, question, schema=SCHEMA):
        with self.subTest(question=question):
            with self.assertRaises(NoQuestion) as caught:
                check_question(schema, question)
            self.assertEqual(caught.exception.join, join)
            self.assertIs(type(caught.exception.join), type(join))
            self.assertIs(type(caught.exception), NoQuestion)
            self.assertIsInstance(caught.exception, ChanceError)

    def test_ordinary_questions(self):
        self.check((0, (CLOSED,)))
        self.check((0, (CLOSED, ((), (RAIN, WORKS)), ((), (WORKS, WORKS)))))
        self.check((2, ((variables("xy"), (WORKS,)), ((value(1), var("x")), (OPEN,)))))
        self.check((1, (((var("x"),), (("works", (var("x"), value("ann"))), ("open", (value(-HUGE),)))),)))

    def test_questions_without_joins(self):
        for width in range(9):
            self.check((width, ()))
            self.check((width, ()), ())

    def test_the_width_of_a_question_without_joins(self):
        for width in (-HUGE, -9, -8, -1, 9, 10, HUGE):
            self.check_fails(None, (width, ()))
            self.check_fails(None, (width, ()), ())

    def test_the_width_with_joins(self):
        body = (("wide", variables("abcdefgh")),)
        for width in range(9):
            self.check((width, ((variables("abcdefgh"[:width]), body),)))
        self.check_fails(None, (9, ((variables("abcdefgha"), body),)))
        self.check_fails(None, (-1, (((), body),)))
        self.check_fails(None, (HUGE, (((), body),)))

    def test_the_number_of_joins(self):
        for count in range(9):
            self.check((0, (CLOSED,) * count))
        for count in (9, 10, 50):
            self.check_fails(None, (0, (CLOSED,) * count))

    def test_the_number_of_atoms(self):
        for count in range(9):
            self.check((0, (((), (RAIN,) * count),)))
            self.check((0, (((), (OPEN,) * count),)))
        for count in (9, 10, 50):
            self.check_fails(0, (0, (((), (RAIN,) * count),)))
            self.check_fails(1, (0, (CLOSED, ((), (OPEN,) * count))))

    def test_a_name_that_is_no_table(self):
        for name in NO_WORDS + ("ope", "openn", "r", "table", "none", "Open"):
            self.check_fails(0, (0, (((), ((name, (var("x"),)),)),)))
            self.check_fails(0, (0, (((), ((name, ()),)),)))
            self.check_fails(1, (0, (CLOSED, ((), (OPEN, (name, (var("x"),)))))))

    def test_tables_with_the_names_that_texts_begin_with(self):
        schema = (("none", 0), ("table", 1))
        self.check((0, (((), (("none", ()), ("table", (var("none"),)))),)), schema)
        self.check((1, ((variables(["table"]), (("table", (var("table"),)),)),)), schema)
        self.check_fails(0, (0, (((), (("none", (var("x"),)),)),)), schema)
        self.check_fails(0, (0, (((), (("table", ()),)),)), schema)

    def test_a_schema_without_tables(self):
        self.check((0, (((), ()),)), ())
        self.check_fails(0, (0, (((), (RAIN,)),)), ())

    def test_the_number_of_terms_of_an_atom(self):
        for name, columns in SCHEMA:
            for count in range(10):
                join = ((), ((name, (var("x"),) * count),))
                if count == columns:
                    self.check((0, (join,)))
                else:
                    self.check_fails(0, (0, (join,)))
                    self.check_fails(1, (0, (CLOSED, join)))

    def test_the_number_of_terms_of_a_head(self):
        for width, count in product(range(9), range(9)):
            join = ((var("x"),) * count, (OPEN,))
            if count == width:
                self.check((width, (join,)))
            else:
                self.check_fails(0, (width, (join,)))
                self.check_fails(1, (width, (((var("x"),) * width, (OPEN,)), join)))

    def test_a_variable_of_the_head_that_is_not_in_the_body(self):
        self.check_fails(0, (1, (((var("y"),), (OPEN,)),)))
        self.check_fails(0, (1, (((var("x"),), ()),)))
        self.check_fails(0, (1, (((var("x"),), (("open", (value("x"),)),)),)))
        self.check_fails(0, (2, (((var("x"), var("xx")), (OPEN,)),)))
        self.check_fails(1, (1, (((var("x"),), (OPEN,)), ((var("x"),), (RAIN,)))))
        self.check((3, ((variables("yxy"), (WORKS,)),)))

    def test_values_in_heads(self):
        for v in (0, -1, HUGE, "a", "x", "table"):
            self.check((1, (((value(v),), ()),)))
            self.check((2, (((value(v), var("x")), (OPEN,)),)))

    def test_variables_that_are_no_words(self):
        for text in NO_WORDS:
            self.check_fails(0, (0, (((), (("open", (var(text),)),)),)))
            self.check_fails(0, (0, (((), (("works", (var("x"), var(text))),)),)))
            self.check_fails(0, (1, (((var(text),), (("open", (var(text),)),)),)))
            self.check_fails(0, (1, (((var(text),), (OPEN,)),)))

    def test_values_that_are_no_values(self):
        for text in NO_WORDS:
            self.check_fails(0, (0, (((), (("open", (value(text),)),)),)))
            self.check_fails(0, (0, (((), (("works", (var("x"), value(text))),)),)))
            self.check_fails(0, (1, (((value(text),), (OPEN,)),)))
            self.check_fails(0, (1, (((value(text),), ()),)))

    def test_the_least_index_of_a_join_that_is_not_valid(self):
        for good in product((True, False), repeat=4):
            question = (0, tuple([CLOSED if fits else BAD for fits in good]))
            if all(good):
                self.check(question)
            else:
                self.check_fails(good.index(False), question)

    def test_different_faults_in_several_joins(self):
        faults = [((), (("snow", ()),)), ((var("x"),), (OPEN,)), ((), (("open", (var("A"),)),)), ((), (RAIN,) * 9), BAD]
        for first, second in product(faults, faults):
            self.check_fails(1, (0, (CLOSED, first, CLOSED, second)))

    def test_the_width_and_the_number_of_joins_come_first(self):
        for width in (-1, 9, HUGE):
            self.check_fails(None, (width, (BAD,)))
            self.check_fails(None, (width, (CLOSED, BAD)))
        self.check_fails(None, (0, (BAD,) * 9))
        self.check_fails(None, (0, (CLOSED,) * 8 + (BAD,)))
        self.check_fails(None, (9, (BAD,) * 9))

    def test_valid_in_one_schema_and_not_in_another(self):
        question = (0, (((), (RAIN,)), CLOSED))
        self.check(question)
        self.check_fails(1, question, (("rain", 0),))
        self.check_fails(0, question, (("open", 1),))
        self.check_fails(1, question, (("open", 2), ("rain", 0)))
        self.check_fails(0, question, (("open", 1), ("rain", 1)))


class TestVariablesOf(unittest.TestCase):
    def check(self, join, names):
        self.assertEqual(variables_of(join), tuple(names))
        self.assertIs(type(variables_of(join)), tuple)

    def test_joins_without_variables(self):
        self.check(((), ()), ())
        self.check(((value(1), value("x")), ()), ())
        self.check(((), (RAIN, ("open", (value("x"),)))), ())

    def test_repeated_variables(self):
        self.check((variables("xx"), (("works", variables("xx")), OPEN, WORKS)), "xy")

    def test_alphabetical_order(self):
        self.check(((), (("works", variables("zb")), ("works", variables("ya")))), "abyz")
        self.check((variables("zb"), (("works", variables("bz")),)), "bz")

    def test_variables_that_begin_one_another(self):
        body = (("works", variables(["ab", "b"])), ("works", variables(["aa", "a"])), ("open", variables(["abc"])))
        self.check(((), body), ["a", "aa", "ab", "abc", "b"])

    def test_values_spelled_like_a_variable(self):
        self.check(((value("z"),), (("works", (value("y"), var("x"))), ("open", (value("w"),)))), "x")
        self.check(((), (("works", (value("x"), var("x"))),)), "x")

    def test_names_spelled_like_a_variable(self):
        self.check(((), (("open", (var("rain"),)), RAIN)), ["rain"])


class TestIsSimple(unittest.TestCase):
    def test_no_atom_and_one(self):
        self.assertIs(is_simple(((), ())), True)
        self.assertIs(is_simple(((), (RAIN,))), True)
        self.assertIs(is_simple(((var("x"),), (OPEN,))), True)

    def test_different_names(self):
        self.assertIs(is_simple(((), (RAIN, OPEN, WORKS))), True)
        self.assertIs(is_simple((variables("xy"), (WORKS, OPEN))), True)
        self.assertIs(is_simple(((), (("r", (var("x"),)), ("rr", (var("x"),))))), True)

    def test_equal_names(self):
        self.assertIs(is_simple(((), (RAIN, RAIN))), False)
        self.assertIs(is_simple(((), (OPEN, WORKS, OPEN))), False)
        self.assertIs(is_simple(((), (RAIN, OPEN, ("open", (value(1),))))), False)


class TestPutRow(unittest.TestCase):
    def check(self, question, row, joins):
        self.assertEqual(put_row(question, row), (0, tuple([((), body) for body in joins])))

    def test_variables_are_replaced_everywhere(self):
        question = (1, (((var("x"),), (OPEN, WORKS, ("works", variables("yx")))),))
        put = (("open", (value(5),)), ("works", (value(5), var("y"))), ("works", (var("y"), value(5))))
        self.check(question, (5,), [put])

    def test_the_values_of_each_variable(self):
        question = (2, ((variables("yx"), (WORKS,)),))
        self.check(question, (1, "a"), [(("works", (value("a"), value(1))),)])
        self.check(question, ("x", "y"), [(("works", (value("y"), value("x"))),)])

    def test_other_variables_and_values_stay(self):
        body = (("works", (var("y"), value("x"))), ("works", (value(7), var("x"))))
        put = (("works", (var("y"), value("x"))), ("works", (value(7), value(1))))
        self.check((1, (((var("x"),), body),)), (1,), [put])

    def test_width_zero(self):
        self.check((0, (CLOSED, ((), ()))), (), [(OPEN,), ()])
        self.check((0, ()), (), [])

    def test_questions_without_joins(self):
        self.check((2, ()), (1, "a"), [])

    def test_values_in_heads(self):
        question = (2, (((value(1), var("x")), (OPEN,)),))
        self.check(question, (1, 2), [(("open", (value(2),)),)])
        self.check(question, (2, 2), [])
        self.check(question, (1, "a"), [(("open", (value("a"),)),)])
        self.check((1, (((value("a"),), ()),)), ("a",), [()])
        self.check((1, (((value("a"),), ()),)), ("b",), [])

    def test_repeated_variables_in_heads(self):
        question = (3, ((variables("xyx"), (WORKS,)),))
        self.check(question, (1, 2, 1), [(("works", (value(1), value(2))),)])
        self.check(question, (1, 2, 2), [])
        self.check(question, (1, 1, 2), [])
        self.check(question, (2, 2, 2), [(("works", (value(2), value(2))),)])
        # Each two places of a head with the same variable count, not only those beside each other.
        self.check((3, ((variables("xxx"), (OPEN,)),)), (1, 1, 2), [])
        self.check((3, ((variables("xxx"), (OPEN,)),)), (2, 1, 2), [])

    def test_variables_and_values_mixed(self):
        question = (3, (((var("x"), value(3), var("x")), (OPEN,)),))
        self.check(question, ("a", 3, "a"), [(("open", (value("a"),)),)])
        self.check(question, ("a", 4, "a"), [])
        self.check(question, ("a", 3, "b"), [])

    def test_a_value_spelled_like_a_variable_is_no_variable(self):
        question = (2, (((value("x"), var("x")), (("works", (var("x"), value("x"))),)),))
        self.check(question, ("x", 1), [(("works", (value(1), value("x"))),)])
        self.check(question, (1, 1), [])

    def test_integers_are_no_words(self):
        question = (1, (((value(1),), (RAIN,)), ((value("a"),), (OPEN,))))
        self.check(question, (1,), [(RAIN,)])
        self.check(question, ("a",), [(OPEN,)])
        self.check(question, (0,), [])
        self.check((2, ((variables("xx"), (OPEN,)),)), (1, "a"), [])
        self.check((2, ((variables("xx"), (OPEN,)),)), (1, -1), [])

    def test_the_joins_that_stay_keep_their_order(self):
        joins = (
            ((value(1),), (RAIN,)),
            ((var("x"),), (OPEN,)),
            ((value(2),), (RAIN, RAIN)),
            ((value(1),), ()),
            ((var("y"),), (WORKS,)),
        )
        one, two = (("open", (value(1),)),), (("open", (value(2),)),)
        self.check((1, joins), (1,), [(RAIN,), one, (), (("works", (var("x"), value(1))),)])
        self.check((1, joins), (2,), [two, (RAIN, RAIN), (("works", (var("x"), value(2))),)])

    def test_equal_joins_stay(self):
        self.check((1, (((var("x"),), (OPEN,)), ((value(1),), (("open", (value(1),)),)))), (1,), [
            (("open", (value(1),)),), (("open", (value(1),)),)])

    def test_long_integers(self):
        self.check((1, (((value(HUGE),), ()),)), (HUGE,), [()])
        self.check((1, (((value(HUGE),), ()),)), (HUGE + 1,), [])

    def test_the_result_is_valid(self):
        question = (2, (((var("x"), var("y")), (WORKS,)), ((var("x"), value("a")), (OPEN, RAIN))))
        for row in product((1, "a"), repeat=2):
            self.assertIsNone(check_question(SCHEMA, put_row(question, row)))


if __name__ == "__main__":
    unittest.main()
