"""Accounts of plans and the first excess ([42])."""

import random
import unittest
from fractions import Fraction

from rightchance.accounts import account_of, first_excess
from rightchance.errors import NoPlan
from rightchance.judging import is_right
from rightchance.plans import number_of_plan, numbers_of
from rightchance.reading import read_book, read_plan, read_question
from tests.oracles import (
    LINKED, atom, chance_of_join, closed, full_store, indexes_in, is_hierarchical, not_valid_plans, number_of, pair,
    parts_in, plain_columns, plain_numbers, plan_of, random_join, random_plan, schema_of,
)

SCHEMA, STORE = read_book("\n".join((
    "table q 0", "table r 1", "table s 2", "table t 1",
    "q() 1/2", "r(1) 1/2", 'r("a") 1/3', "s(1, 1) 1/2", 's(1, "a") 1/3', 's("a", "a") 1/5', "s(2, 2) 0/1",
    't("a") 1/2',
)))
RST = "r(x), s(x, y), t(y)"


def read_join(text):
    return read_question(SCHEMA, "[] " + text)[1][0]


def plain_account(store, join, plan):
    """The account, as [42] says it."""
    inner = {"scan": (), "project": plan[2:], "join": plan[1]}[plan[0]]
    parts = [triple for part in inner for triple in plain_account(store, join, part)]
    return parts + [(plan, tuple(plain_columns(join, plan)), plain_numbers(store, join, plan))]


def sub_join(join, part, row):
    """The closed join of the atoms beneath a part in which its columns have the values of the row."""
    worth = dict(zip(plain_columns(join, part), row))
    body = []
    for index in sorted(indexes_in(part)):
        name, terms = join[1][index]
        body.append((name, tuple([("value", worth[x]) if kind == "var" and x in worth else (kind, x)
                                  for kind, x in terms])))
    return ((), tuple(body))


def plain_excess(store, join, plan):
    """The first excess, as [42] says it."""
    for part, _, numbers in plain_account(store, join, plan):
        for row, number in numbers:
            chance = chance_of_join(store, sub_join(join, part, row))
            if Fraction(*number) > chance:
                return (part, row, number, pair(chance))
    return None


class TestAccountOf(unittest.TestCase):
    def check(self, join_text, plan_text, *triples, store=STORE):
        """Each triple has the text of a part, its columns as one string, and its pairs of rows and numbers."""
        join = read_join(join_text)
        plan = read_plan(join, plan_text)
        account = account_of(store, join, plan)
        expected = [(read_plan(join, part), tuple(columns), numbers) for part, columns, numbers in triples]
        with self.subTest(join=join_text, plan=plan_text):
            self.assertEqual(account, tuple(expected))
            self.assertEqual(list(account), plain_account(store, join, plan))
            for _, columns, numbers in account:
                self.assertTrue(type(columns) is type(numbers) is tuple)

    def test_scans(self):
        self.check("q()", "q()", ("q()", "", (((), (1, 2)),)))
        self.check("r(1)", "r(1)", ("r(1)", "", (((), (1, 2)),)))

    def test_parts_without_a_row_whose_number_is_not_zero(self):
        self.check("r(5)", "r(5)", ("r(5)", "", ()))
        self.check("q()", "q()", ("q()", "", ()), store=())
        self.check("s(2, x)", "!x s(2, x)", ("s(2, x)", "x", ()), ("!x s(2, x)", "", ()))

    def test_projections(self):
        self.check("r(x)", "!x r(x)", ("r(x)", "x", (((1,), (1, 2)), (("a",), (1, 3)))),
                   ("!x r(x)", "", (((), (2, 3)),)))

    def test_projections_in_one_another(self):
        scan = ("s(x, y)", "xy", (((1, 1), (1, 2)), ((1, "a"), (1, 3)), (("a", "a"), (1, 5))))
        self.check("s(x, y)", "!x !y s(x, y)", scan, ("!y s(x, y)", "x", (((1,), (2, 3)), (("a",), (1, 5)))),
                   ("!x !y s(x, y)", "", (((), (11, 15)),)))
        self.check("s(x, y)", "!y !x s(x, y)", scan, ("!x s(x, y)", "y", (((1,), (1, 2)), (("a",), (7, 15)))),
                   ("!y !x s(x, y)", "", (((), (11, 15)),)))

    def test_joins(self):
        q, r, t = ("q()", "", (((), (1, 2)),)), ("r(1)", "", (((), (1, 2)),)), ('t("a")', "", (((), (1, 2)),))
        join = 'q(), r(1), t("a")'
        self.check(join, '[q() * r(1) * t("a")]', q, r, t, ('[q() * r(1) * t("a")]', "", (((), (1, 8)),)))
        self.check(join, '[t("a") * q() * r(1)]', t, q, r, ('[t("a") * q() * r(1)]', "", (((), (1, 8)),)))

    def test_joins_in_joins(self):
        q, r, t = ("q()", "", (((), (1, 2)),)), ("r(1)", "", (((), (1, 2)),)), ('t("a")', "", (((), (1, 2)),))
        join, inner = 'q(), r(1), t("a")', ('[r(1) * t("a")]', "", (((), (1, 4)),))
        self.check(join, '[q() * [r(1) * t("a")]]', q, r, t, inner, ('[q() * [r(1) * t("a")]]', "", (((), (1, 8)),)))
        self.check(join, '[[r(1) * t("a")] * q()]', r, t, inner, q, ('[[r(1) * t("a")] * q()]', "", (((), (1, 8)),)))

    def test_joins_and_projections(self):
        self.check(
            RST, "!x [r(x) * !y [s(x, y) * t(y)]]",
            ("r(x)", "x", (((1,), (1, 2)), (("a",), (1, 3)))),
            ("s(x, y)", "xy", (((1, 1), (1, 2)), ((1, "a"), (1, 3)), (("a", "a"), (1, 5)))),
            ("t(y)", "y", ((("a",), (1, 2)),)),
            ("[s(x, y) * t(y)]", "xy", (((1, "a"), (1, 6)), (("a", "a"), (1, 10)))),
            ("!y [s(x, y) * t(y)]", "x", (((1,), (1, 6)), (("a",), (1, 10)))),
            ("[r(x) * !y [s(x, y) * t(y)]]", "x", (((1,), (1, 12)), (("a",), (1, 30)))),
            ("!x [r(x) * !y [s(x, y) * t(y)]]", "", (((), (41, 360)),)),
        )

    def test_numbers_are_in_ascending_order_of_the_rows(self):
        store = tuple([("r", (v,), (1, 2)) for v in (-11, -2, 3, 20, "a", "ab", "b")])
        numbers = tuple([((v,), (1, 2)) for v in (-11, -2, 3, 20, "a", "ab", "b")])
        self.check("r(x)", "!x r(x)", ("r(x)", "x", numbers), ("!x r(x)", "", (((), (127, 128)),)), store=store)

    def test_random_plans(self):
        source = random.Random(91)
        for _ in range(200):
            join = source.choice((random_join(source, 4, values=(1, 2)), source.choice(LINKED)))
            store = full_store(source, schema_of(join), 12)
            plan = random_plan(source, join)
            account = account_of(store, join, plan)
            with self.subTest(join=join, plan=plan, store=store):
                self.assertEqual(list(account), plain_account(store, join, plan))
                self.assertEqual(len(account), len(parts_in(plan)))
                self.assertEqual(account[-1][0], plan)
                self.assertEqual(account[-1][2], numbers_of(store, join, plan))

    def test_many_parts(self):
        names = [first + second for first in "abcdefgh" for second in "stuvwxyz"]
        join = closed(*[atom("r" + "abcdefgh"[k], *names[k * 8:k * 8 + 8]) for k in range(8)])
        facts = [("r" + name, (k,) * 8, (1, 2)) for name in "abcdefgh" for k in range(20)]
        account = account_of(tuple(facts), join, plan_of(join, names))
        self.assertEqual(len(account), 8 + 64 + 1)

    def test_plans_that_are_not_valid(self):
        for join, plan in not_valid_plans():
            for function in (account_of, first_excess):
                with self.subTest(join=join, plan=plan), self.assertRaises(NoPlan) as caught:
                    function((), join, plan)
                self.assertIs(type(caught.exception), NoPlan)


class TestFirstExcess(unittest.TestCase):
    def check(self, store, join, plan, expected):
        with self.subTest(join=join, plan=plan):
            self.assertEqual(first_excess(store, join, plan), expected)
            self.assertEqual(plain_excess(store, join, plan), expected)

    def check_text(self, store, join_text, plan_text, part_text=None, *rest):
        join = read_join(join_text)
        expected = None if part_text is None else (read_plan(join, part_text), *rest)
        self.check(store, join, read_plan(join, plan_text), expected)

    def test_right_plans_have_none(self):
        self.check_text(STORE, "q()", "q()")
        self.check_text(STORE, "r(x)", "!x r(x)")
        self.check_text(STORE, "r(x), s(x, y)", "!x [r(x) * !y s(x, y)]")
        self.check_text(STORE, "r(x), t(y)", "[!x r(x) * !y t(y)]")
        source = random.Random(92)
        right = 0
        for _ in range(200):
            join = random_join(source, 3, values=(1, 2))
            plan = random_plan(source, join)
            if is_right(join, plan):
                self.check(full_store(source, schema_of(join), 7), join, plan, None)
                right += 1
        self.assertGreater(right, 40)

    def test_other_plans_in_stores_where_no_part_says_too_much(self):
        self.check_text((), "q(), r(x)", "!x [q() * r(x)]")
        store = (("q", (), (1, 2)), ("r", (1,), (1, 3)))
        self.check_text(store, "q(), r(x)", "!x [q() * r(x)]")
        store = (("q", (), (1, 1)), ("r", (1,), (1, 3)), ("r", (2,), (1, 2)))
        self.check_text(store, "q(), r(x)", "!x [q() * r(x)]")
        store = (("q", (), (0, 1)), ("r", (1,), (1, 3)), ("r", (2,), (1, 2)))
        self.check_text(store, "q(), r(x)", "!x [q() * r(x)]")

    def test_the_whole_plan_says_too_much(self):
        store = (("q", (), (1, 2)), ("r", (1,), (1, 2)), ("r", (2,), (1, 2)))
        self.check_text(store, "q(), r(x)", "!x [q() * r(x)]", "!x [q() * r(x)]", (), (7, 16), (3, 8))
        join = "!x [r(x) * !y [s(x, y) * t(y)]]"
        self.check_text(STORE, RST, join, join, (), (41, 360), (1, 9))

    def test_an_inner_part_says_too_much(self):
        plan, part = "!x [r(x) * !y [q() * s(x, y)]]", "!y [q() * s(x, y)]"
        store = (("q", (), (1, 2)), ("r", (1,), (1, 2)), ("s", (1, 1), (1, 1)), ("s", (1, 2), (1, 1)))
        self.check_text(store, "q(), r(x), s(x, y)", plan, part, (1,), (3, 4), (1, 2))

    def test_an_inner_part_says_too_much_while_the_number_is_the_chance(self):
        plan, part = "!x [r(x) * !y [q() * s(x, y)]]", "!y [q() * s(x, y)]"
        store = (("q", (), (1, 2)), ("s", (1, 1), (1, 1)), ("s", (1, 2), (1, 1)))
        join = read_join("q(), r(x), s(x, y)")
        self.assertEqual(number_of(store, join, read_plan(join, plan)), chance_of_join(store, join))
        self.check_text(store, "q(), r(x), s(x, y)", plan, part, (1,), (3, 4), (1, 2))

    def test_the_least_row(self):
        facts = [("s", (v, w), (1, 1)) for v in (-7, -2, 3, "a", "b") for w in (1, 2)]
        plan, part = "!x [r(x) * !y [q() * s(x, y)]]", "!y [q() * s(x, y)]"
        for count, row in ((0, (-7,)), (1, (-2,)), (3, (3,)), (4, (3,)), (6, ("a",)), (7, ("b",))):
            self.check_text((("q", (), (1, 3)), *facts[count:]), "q(), r(x), s(x, y)", plan, part, row, (5, 9), (1, 3))

    def test_the_first_one_of_several_parts(self):
        store = (("q", (), (1, 2)), ("r", (1,), (1, 1)), ("r", (2,), (1, 1)), ("s", (1, 1), (1, 1)),
                 ("s", (2, 1), (1, 1)), ("t", (1,), (1, 2)), ("t", (2,), (1, 1)))
        join = "q(), r(x), s(z, y), t(1)"
        first, second = "!x [q() * r(x)]", "!z !y [s(z, y) * t(1)]"
        self.check_text(store, join, f"[{first} * {second}]", first, (), (3, 4), (1, 2))
        self.check_text(store, join, f"[{second} * {first}]", second, (), (3, 4), (1, 2))

    def test_random_plans(self):
        source = random.Random(93)
        counts = {"none": 0, "whole": 0, "inner": 0, "only inner": 0}
        for _ in range(200):
            join = source.choice((random_join(source, 4, values=(1, 2)), source.choice(LINKED)))
            store = full_store(source, schema_of(join), 7)
            plan = random_plan(source, join)
            found = first_excess(store, join, plan)
            with self.subTest(join=join, plan=plan, store=store):
                self.assertEqual(found, plain_excess(store, join, plan))
                differs = Fraction(*number_of_plan(store, join, plan)) != chance_of_join(store, join)
                self.assertTrue(found is not None or not differs)
            where = "none" if found is None else "whole" if found[0] == plan else "inner" if differs else "only inner"
            counts[where] += 1
        self.assertGreater(min(counts.values()), 0)

    def test_a_join_without_a_right_plan_on_many_facts(self):
        r, t = [("r", (k,), (1, 2)) for k in range(6)], [("t", (k,), (1, 2)) for k in range(30)]
        s = [("s", (a, b), (1, 3)) for a in range(6) for b in range(25)]
        join = read_join(RST)
        self.assertFalse(is_hierarchical(join))
        part, row, number, chance = first_excess(tuple(r + s + t), join, plan_of(join, "xy"))
        self.assertEqual((part, row), (plan_of(join, "xy"), ()))
        self.assertGreater(Fraction(*number), Fraction(*chance))


if __name__ == "__main__":
    unittest.main()
