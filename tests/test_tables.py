"""Tables, schemas, places, facts and stores ([6], [7])."""

import unittest
from itertools import permutations

from rightchance.errors import DoubleFact, NoRow, NoSchema, NoShare
from rightchance.shares import make_share
from rightchance.tables import chance_at, check_schema, is_place, make_store

HUGE = 10 ** 150
NO_WORDS = ("", "A", "Works", "works2", "a b", " a", "a ", "a\n", "\ta", "`", "{", "7", "r(x)")
SCHEMA = (("open", 1), ("rain", 0), ("works", 2))


def many_tables(count):
    return tuple([("t" + chr(ord("a") + k), k % 9) for k in range(count)])


class TestCheckSchema(unittest.TestCase):
    def check(self, schema):
        self.assertIsNone(check_schema(schema))

    def check_fails(self, schema):
        with self.subTest(schema=schema), self.assertRaises(NoSchema):
            check_schema(schema)

    def test_no_tables(self):
        self.check(())

    def test_ordinary_schemas(self):
        self.check((("r", 1),))
        self.check(SCHEMA)
        self.check((("a", 1), ("aa", 1), ("ab", 1), ("b", 1)))

    def test_up_to_twenty_tables(self):
        for count in range(21):
            self.check(many_tables(count))

    def test_more_than_twenty_tables(self):
        for count in (21, 22, 26):
            self.check_fails(many_tables(count))

    def test_the_number_of_columns(self):
        for columns in range(9):
            self.check((("r", columns),))
        for columns in (-HUGE, -8, -1, 9, 10, HUGE):
            self.check_fails((("r", columns),))
            self.check_fails((("a", 1), ("r", columns)))
            self.check_fails((("r", columns), ("s", 1)))

    def test_a_name_that_is_no_word(self):
        for name in NO_WORDS:
            self.check_fails(((name, 1),))
        self.check_fails((("A", 1), ("b", 1)))
        self.check_fails((("a", 1), ("b2", 1)))
        self.check_fails((("", 1), ("a", 1)))

    def test_equal_names(self):
        self.check_fails((("r", 1), ("r", 1)))
        self.check_fails((("r", 1), ("r", 2)))
        self.check_fails((("a", 1), ("r", 1), ("r", 1), ("s", 1)))
        self.check_fails((("r", 1), ("s", 1), ("r", 1)))

    def test_names_in_the_wrong_order(self):
        self.check_fails((("s", 1), ("r", 1)))
        self.check_fails((("a", 1), ("c", 1), ("b", 1)))
        self.check_fails((("b", 1), ("a", 1), ("c", 1)))
        self.check_fails((("aa", 1), ("a", 1)))
        for names in permutations("abc"):
            if names != ("a", "b", "c"):
                self.check_fails(tuple([(name, 1) for name in names]))


class TestIsPlace(unittest.TestCase):
    def test_places(self):
        for name, row in (("open", (1,)), ("open", ("a",)), ("works", ("ann", 3)), ("works", (-HUGE, HUGE))):
            self.assertIs(is_place(SCHEMA, name, row), True)

    def test_a_name_that_is_no_table(self):
        for name in NO_WORDS + ("work", "workss", "r", "rainy", "Open"):
            for row in ((), (1,), (1, 2)):
                self.assertIs(is_place(SCHEMA, name, row), False)

    def test_too_few_and_too_many_values(self):
        for name, columns in SCHEMA:
            for length in range(6):
                self.assertIs(is_place(SCHEMA, name, (1,) * length), length == columns)

    def test_a_string_that_is_no_word(self):
        for text in NO_WORDS:
            self.assertIs(is_place(SCHEMA, "open", (text,)), False)
            self.assertIs(is_place(SCHEMA, "works", ("a", text)), False)
            self.assertIs(is_place(SCHEMA, "works", (text, 1)), False)

    def test_a_table_without_columns(self):
        self.assertIs(is_place(SCHEMA, "rain", ()), True)
        self.assertIs(is_place(SCHEMA, "rain", (1,)), False)
        self.assertIs(is_place(SCHEMA, "rain", ("",)), False)

    def test_a_schema_without_tables(self):
        self.assertIs(is_place((), "rain", ()), False)
        self.assertIs(is_place((), "", ()), False)


class TestMakeStore(unittest.TestCase):
    def test_the_empty_list(self):
        self.assertEqual(make_store(SCHEMA, []), ())
        self.assertEqual(make_store((), []), ())

    def test_the_facts_are_put_in_order(self):
        ascending = (
            ("open", (-1,), (1, 2)),
            ("open", (3,), (0, 1)),
            ("open", ("a",), (1, 1)),
            ("rain", (), (2, 3)),
            ("works", (3, "a"), (1, 7)),
            ("works", ("a", 3), (1, 7)),
        )
        for facts in permutations(ascending):
            self.assertEqual(make_store(SCHEMA, list(facts)), ascending)

    def test_names_before_rows(self):
        facts = [("works", (0, 0), (1, 2)), ("open", ("zz",), (1, 3))]
        self.assertEqual(make_store(SCHEMA, facts), (facts[1], facts[0]))

    def test_facts_with_the_chances_zero_and_one_are_facts(self):
        facts = [("open", (1,), (0, 1)), ("open", (2,), (1, 1))]
        self.assertEqual(make_store(SCHEMA, facts), tuple(facts))

    def test_equal_rows_of_different_tables_are_different_places(self):
        schema = (("r", 1), ("s", 1))
        facts = [("s", (1,), (1, 2)), ("r", (1,), (1, 2))]
        self.assertEqual(make_store(schema, facts), (("r", (1,), (1, 2)), ("s", (1,), (1, 2))))

    def test_many_facts_with_long_chances(self):
        ascending = tuple([("works", (k, "a"), make_share(10 ** 59 + k, 10 ** 60 - 1)) for k in range(200)])
        self.assertEqual(make_store(SCHEMA, list(reversed(ascending))), ascending)

    def test_values_of_any_size(self):
        facts = [("open", (HUGE,), (1, 2)), ("open", (-HUGE,), (HUGE, HUGE + 1))]
        self.assertEqual(make_store(SCHEMA, facts), (facts[1], facts[0]))

    def test_the_list_that_was_passed_is_unchanged(self):
        facts = [("works", (1, 2), (1, 2)), ("open", (1,), (1, 2))]
        kept = list(facts)
        make_store(SCHEMA, facts)
        self.assertEqual(facts, kept)

    def test_a_later_change_of_the_list_has_no_effect(self):
        facts = [("works", (1, 2), (1, 2)), ("open", (1,), (1, 2))]
        store = make_store(SCHEMA, facts)
        facts.append(("rain", (), (1, 2)))
        facts[0] = ("works", (7, 7), (1, 1))
        del facts[1]
        self.assertEqual(store, (("open", (1,), (1, 2)), ("works", (1, 2), (1, 2))))
        self.assertIs(type(store), tuple)


GOOD = ("open", (1,), (1, 2))
# One fact for each error alone; the fact with DoubleFact is one only behind GOOD.
ROW = ("open", (1, 2), (1, 2))
SHARE = ("open", (2,), (2, 4))
DOUBLE = ("open", (1,), (1, 3))


class TestErrorsOfMakeStore(unittest.TestCase):
    def check_fails(self, error, *facts):
        with self.subTest(facts=facts):
            with self.assertRaises(error) as caught:
                make_store(SCHEMA, list(facts))
            self.assertIs(type(caught.exception), error)

    def test_no_row_alone(self):
        self.check_fails(NoRow, ROW)
        self.check_fails(NoRow, ("snow", (1,), (1, 2)))
        self.check_fails(NoRow, ("", (), (1, 2)))
        self.check_fails(NoRow, ("open", (), (1, 2)))
        self.check_fails(NoRow, ("rain", (1,), (1, 2)))
        self.check_fails(NoRow, ("open", ("A",), (1, 2)))
        self.check_fails(NoRow, GOOD, ("works", ("a", ""), (1, 2)))

    def test_no_share_alone(self):
        for pair in ((2, 4), (2, 1), (3, 2), (0, 2), (2, 2), (-1, 2), (1, -2), (-1, -2), (0, 0), (1, 0), (HUGE, 1)):
            self.check_fails(NoShare, ("open", (1,), pair))
            self.check_fails(NoShare, GOOD, ("rain", (), pair))

    def test_double_fact_alone(self):
        self.check_fails(DoubleFact, GOOD, DOUBLE)
        self.check_fails(DoubleFact, GOOD, GOOD)
        self.check_fails(DoubleFact, GOOD, ("open", (2,), (1, 2)), ("rain", (), (1, 2)), DOUBLE)
        self.check_fails(DoubleFact, ("rain", (), (0, 1)), ("rain", (), (1, 1)))

    def test_no_row_comes_before_no_share(self):
        self.check_fails(NoRow, ("open", (1, 2), (2, 4)))
        self.check_fails(NoRow, ("snow", (), (1, 0)))
        self.check_fails(NoRow, ("open", ("A",), (-1, 2)))

    def test_no_share_comes_before_double_fact(self):
        self.check_fails(NoShare, GOOD, ("open", (1,), (2, 4)))
        self.check_fails(NoShare, GOOD, ("open", (1,), (3, 2)))

    def test_the_first_fact_with_an_error_decides(self):
        self.check_fails(NoRow, ROW, SHARE, GOOD, DOUBLE)
        self.check_fails(NoRow, GOOD, ROW, DOUBLE, SHARE)
        self.check_fails(NoShare, SHARE, ROW, GOOD, DOUBLE)
        self.check_fails(NoShare, GOOD, SHARE, DOUBLE, ROW)
        self.check_fails(DoubleFact, GOOD, DOUBLE, ROW, SHARE)
        self.check_fails(DoubleFact, GOOD, DOUBLE, SHARE, ROW)

    def test_the_order_of_the_list_decides_not_that_of_the_places(self):
        self.check_fails(NoShare, ("works", (1, 2), (2, 4)), ("open", (), (1, 2)))
        self.check_fails(NoRow, ("works", (1,), (1, 2)), ("open", (1,), (2, 4)))


class TestChanceAt(unittest.TestCase):
    store = (
        ("open", (1,), (1, 2)),
        ("open", ("a",), (0, 1)),
        ("rain", (), (1, 1)),
        ("works", (1, "a"), (2, 3)),
        ("works", (HUGE, "a"), (HUGE, HUGE + 1)),
    )

    def test_places_with_a_fact(self):
        for name, row, chance in self.store:
            self.assertEqual(chance_at(self.store, name, row), chance)

    def test_places_without_a_fact(self):
        places = (("open", (2,)), ("open", ("b",)), ("works", ("a", 1)), ("works", (1, "b")), ("works", (2, "a")))
        for name, row in places:
            self.assertEqual(chance_at(self.store, name, row), (0, 1))

    def test_the_row_of_another_table(self):
        self.assertEqual(chance_at(self.store, "rain", (1,)), (0, 1))
        self.assertEqual(chance_at(self.store, "open", ()), (0, 1))
        self.assertEqual(chance_at(self.store, "snow", ()), (0, 1))

    def test_the_empty_store(self):
        self.assertEqual(chance_at((), "rain", ()), (0, 1))
        self.assertEqual(chance_at((), "open", (1,)), (0, 1))


if __name__ == "__main__":
    unittest.main()
