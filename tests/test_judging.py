"""Safe projections, right plans and parting stores ([23])."""

import random
import unittest

from rightchance.errors import NoPlan
from rightchance.judging import is_right, parting_store, unsafe_variables
from rightchance.plainly import plain_chance
from rightchance.plans import number_of_plan
from rightchance.reading import read_plan, read_question
from rightchance.tables import make_store
from tests.oracles import (
    all_variables, atom, chance_of_join, closed, number_of, random_join, random_plan, random_store, schema_of,
    unsafe_in, value, var,
)

HUGE = 10 ** 150
SCHEMA = (("q", 0), ("r", 1), ("s", 2), ("t", 1), ("u", 3))
# The functions that judge a plan; each raises NoPlan for a plan that is not valid.
JUDGES = (
    unsafe_variables,
    is_right,
    lambda join, plan: parting_store(SCHEMA, join, plan),
)


def read_join(text):
    return read_question(SCHEMA, "[] " + text)[1][0]


class TestUnsafeVariables(unittest.TestCase):
    def check(self, join_text, plan_text, names):
        join = read_join(join_text)
        plan = read_plan(join, plan_text)
        with self.subTest(join=join_text, plan=plan_text):
            self.assertEqual(unsafe_variables(join, plan), tuple(names))
            self.assertIs(is_right(join, plan), len(names) == 0)
            self.assertEqual(parting_store(SCHEMA, join, plan) is None, len(names) == 0)

    def test_plans_with_safe_projections_only(self):
        self.check("q()", "q()", "")
        self.check("r(1)", "r(1)", "")
        self.check("r(x)", "!x r(x)", "")
        self.check("s(x, y)", "!x !y s(x, y)", "")
        self.check("s(x, y)", "!y !x s(x, y)", "")
        self.check("q(), r(1)", "[q() * r(1)]", "")
        self.check("r(x), t(y)", "[!x r(x) * !y t(y)]", "")
        self.check("r(x), s(x, y)", "!x [r(x) * !y s(x, y)]", "")
        self.check("r(x), s(x, y)", "!x [!y s(x, y) * r(x)]", "")
        self.check("s(x, y), u(x, x, y)", "!x !y [s(x, y) * u(x, x, y)]", "")
        self.check("s(x, y), u(x, x, y)", "!y !x [s(x, y) * u(x, x, y)]", "")

    def test_plans_with_one_that_is_not_safe(self):
        self.check("r(x), s(x, y)", "!x !y [r(x) * s(x, y)]", "y")
        self.check("r(x), s(x, y)", "!y !x [r(x) * s(x, y)]", "y")
        self.check("q(), r(x)", "!x [q() * r(x)]", "x")
        self.check("r(x), s(x, y), t(y)", "!x [r(x) * !y [s(x, y) * t(y)]]", "x")
        self.check("r(x), s(x, y), t(y)", "!y [t(y) * !x [s(x, y) * r(x)]]", "y")
        self.check("r(1), t(y)", "!y [r(1) * t(y)]", "y")

    def test_plans_with_several(self):
        self.check("r(x), t(y)", "!x !y [r(x) * t(y)]", "xy")
        self.check("r(x), t(y)", "!y !x [r(x) * t(y)]", "xy")
        self.check("r(x), s(x, y), t(y)", "!x !y [r(x) * s(x, y) * t(y)]", "xy")
        self.check("r(x), s(x, y), u(z, y, x)", "!z !y !x [r(x) * s(x, y) * u(z, y, x)]", "yz")
        self.check("q(), s(b, a)", "!a !b [q() * s(b, a)]", "ab")

    def test_variables_are_in_alphabetical_order(self):
        join = closed(atom("q"), atom("u", "b", "ab", "a"))
        plan = ("join", (("scan", 0), ("scan", 1)))
        for name in ("ab", "b", "a"):
            plan = ("project", name, plan)
        self.assertEqual(unsafe_variables(join, plan), ("a", "ab", "b"))

    def test_random_plans(self):
        source = random.Random(31)
        counts = [0, 0, 0]
        for _ in range(400):
            join = random_join(source)
            plan = random_plan(source, join)
            unsafe = unsafe_in(join, plan)
            with self.subTest(join=join, plan=plan):
                self.assertEqual(unsafe_variables(join, plan), unsafe)
                self.assertIs(is_right(join, plan), unsafe == ())
            counts[min(len(unsafe), 2)] += 1
        self.assertGreater(min(counts), 20)

    def test_right_plans_have_the_chance_of_the_join_as_their_number(self):
        source = random.Random(32)
        for _ in range(150):
            join = random_join(source, 3, values=(1, 2))
            plan = random_plan(source, join)
            if is_right(join, plan):
                store = random_store(source, schema_of(join), 7, (1, 2))
                with self.subTest(join=join, plan=plan, store=store):
                    self.assertEqual(number_of(store, join, plan), chance_of_join(store, join))


class TestNoPlan(unittest.TestCase):
    def check_fails(self, join, plan):
        for judge in JUDGES:
            with self.subTest(join=join, plan=plan), self.assertRaises(NoPlan) as caught:
                judge(join, plan)
            self.assertIs(type(caught.exception), NoPlan)

    def test_the_join_without_atoms(self):
        for plan in (("scan", 0), ("join", ()), ("project", "x", ("scan", 0))):
            self.check_fails(((), ()), plan)

    def test_indexes(self):
        join = closed(atom("r", "x"))
        for index in (-HUGE, -1, 1, HUGE):
            self.check_fails(join, ("project", "x", ("scan", index)))

    def test_each_kind_of_plan_that_is_not_valid(self):
        for join_text, plan_text in (
            ("r(x)", "r(x)"),
            ("r(x)", "!x !x r(x)"),
            ("r(x)", "!y r(x)"),
            ("r(x)", "!y !x r(x)"),
            ("q(), r(x)", "!x r(x)"),
            ("q(), r(x)", "q()"),
            ("q(), r(x)", "!x [r(x) * r(x)]"),
            ("q(), r(x)", "[q() * [q() * !x r(x)]]"),
            ("q(), r(x)", "[q() * r(x)]"),
            ("r(x), t(x)", "[!x r(x) * !x t(x)]"),
            ("r(x), s(x, y)", "!x [r(x) * s(x, y)]"),
            ("r(x), s(x, y)", "[!x r(x) * !x !y s(x, y)]"),
            ("r(x), s(x, y)", "!x [r(x) * !x !y s(x, y)]"),
        ):
            join = read_join(join_text)
            self.check_fails(join, read_plan(join, plan_text))

    def test_joins_of_few_plans(self):
        join = read_join("r(1)")
        self.check_fails(join, ("join", (("scan", 0),)))
        self.check_fails(join, ("join", ()))
        self.check_fails(read_join("r(x)"), ("project", "x", ("join", (("scan", 0),))))


class TestPartingStore(unittest.TestCase):
    def check(self, schema, join, plan):
        store = parting_store(schema, join, plan)
        with self.subTest(join=join, plan=plan, store=store):
            if unsafe_in(join, plan) == ():
                self.assertIsNone(store)
                return 0
            self.assertEqual(make_store(schema, list(store)), store)
            self.assertLessEqual(len(store), 20)
            unsure = [fact for fact in store if fact[2] not in ((0, 1), (1, 1))]
            self.assertLessEqual(len(unsure), 8)
            self.assertNotEqual(number_of_plan(store, join, plan), plain_chance(store, (0, (join,))))
            return 1

    def test_against_the_definitions(self):
        for join_text, plan_text in (
            ("q(), r(x)", "!x [q() * r(x)]"),
            ("r(x), t(y)", "!x !y [r(x) * t(y)]"),
            ("r(x), s(x, y)", "!x !y [r(x) * s(x, y)]"),
            ("r(x), s(x, y), t(y)", "!x [r(x) * !y [s(x, y) * t(y)]]"),
            ("r(1), t(y)", "!y [r(1) * t(y)]"),
        ):
            join = read_join(join_text)
            plan = read_plan(join, plan_text)
            self.assertEqual(self.check(SCHEMA, join, plan), 1)
            store = parting_store(SCHEMA, join, plan)
            self.assertGreater(number_of(store, join, plan), chance_of_join(store, join))

    def test_right_plans_have_none(self):
        for join_text, plan_text in (("q()", "q()"), ("r(x)", "!x r(x)"), ("r(x), s(x, y)", "!x [r(x) * !y s(x, y)]")):
            join = read_join(join_text)
            self.assertIsNone(parting_store(SCHEMA, join, read_plan(join, plan_text)))

    def test_random_plans(self):
        source = random.Random(33)
        parted = 0
        for _ in range(600):
            join = random_join(source, 5, "vwxyz", 4)
            parted += self.check(schema_of(join, closed(atom("z", 1, 2))), join, random_plan(source, join))
        self.assertGreater(parted, 200)
        self.assertLess(parted, 590)

    def test_values_and_repeated_variables(self):
        for join in (
            closed(atom("r", 1, "x"), ("s", (var("y"), value("a"), var("y"))), atom("t", "x", "y", 2)),
            closed(atom("r", "x", "x"), atom("s", "y", "x", "y", 1)),
            closed(atom("r"), atom("s", 2, "x", 1, "x")),
        ):
            for k in range(40):
                self.check(schema_of(join), join, random_plan(random.Random(k), join))

    def test_the_greatest_joins(self):
        names = [first + second for first in "abcdefgh" for second in "stuvwxyz"]
        for shift in (8, 7, 4, 1):
            join = closed(*[atom("r" + "abcdefgh"[k], *names[k * shift:k * shift + 8]) for k in range(8)])
            plan = ("join", tuple([("scan", k) for k in range(8)]))
            for name in all_variables(join)[::-1]:
                plan = ("project", name, plan)
            self.assertEqual(self.check(schema_of(join), join, plan), 1)


if __name__ == "__main__":
    unittest.main()
