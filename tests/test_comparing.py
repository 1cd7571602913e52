"""Plans compared ([38]) and least plans ([39])."""

import random
import unittest
from itertools import combinations, permutations

from rightchance.comparing import added_variables, compare_plans, least_plans, store_above
from rightchance.errors import NoPlan
from rightchance.plans import number_of_plan
from rightchance.reading import read_plan, read_question
from rightchance.tables import make_store
from rightchance.writing import write_plan
from tests.oracles import (
    LINKED, all_variables, atom, closed, full_store, is_at_most, is_hierarchical, is_valid, not_valid_plans, number_of,
    plain_added, plan_of, random_join, random_plan, schema_of, value, var,
)

SCHEMA = (("q", 0), ("r", 1), ("s", 2), ("t", 1), ("u", 3), ("v", 2))
RST = "r(x), s(x, y), t(y)"
ANSWERS = ("same", "below", "above", "apart")


def read_join(text):
    return read_question(SCHEMA, "[] " + text)[1][0]


def refuses(case, function, *arguments):
    with case.subTest(arguments=arguments), case.assertRaises(NoPlan) as caught:
        function(*arguments)
    case.assertIs(type(caught.exception), NoPlan)


class TestAddedVariables(unittest.TestCase):
    def check(self, join_text, plan_text, *added):
        join = read_join(join_text)
        plan = read_plan(join, plan_text)
        with self.subTest(join=join_text, plan=plan_text):
            self.assertEqual(added_variables(join, plan), tuple([tuple(names) for names in added]))

    def test_a_scan_at_the_top(self):
        self.check("q()", "q()", "")
        self.check("r(1)", "r(1)", "")
        self.check("s(1, 2)", "s(1, 2)", "")

    def test_projections_of_variables_of_all_atoms(self):
        self.check("r(x)", "!x r(x)", "")
        self.check("s(x, y)", "!x !y s(x, y)", "")
        self.check("r(x), t(x)", "!x [r(x) * t(x)]", "", "")
        self.check("r(x), s(x, y)", "!x [r(x) * !y s(x, y)]", "", "")

    def test_projections_above_atoms_that_lack_the_variable(self):
        self.check("q(), r(x)", "!x [q() * r(x)]", "x", "")
        self.check("r(x), s(x, y)", "!x !y [r(x) * s(x, y)]", "y", "")
        self.check(RST, "!x [r(x) * !y [s(x, y) * t(y)]]", "", "", "x")
        self.check(RST, "!y [t(y) * !x [s(x, y) * r(x)]]", "y", "", "")
        self.check("r(1), t(y), q()", "!y [q() * r(1) * t(y)]", "y", "", "y")

    def test_several_projections_one_above_the_other(self):
        self.check("r(x), t(y)", "!x !y [r(x) * t(y)]", "y", "x")
        self.check(RST, "!x !y [r(x) * s(x, y) * t(y)]", "y", "", "x")
        self.check(RST, "!y !x [r(x) * s(x, y) * t(y)]", "y", "", "x")
        self.check("q(), u(x, y, z)", "!z !x !y [q() * u(x, y, z)]", "xyz", "")
        self.check("q(), u(x, y, z)", "!z [q() * !x !y u(x, y, z)]", "z", "")
        self.check("r(x), s(x, y), u(x, y, z)", "!x !y [!z [u(x, y, z) * s(x, y)] * r(x)]", "y", "z", "")

    def test_the_result_is_in_the_order_of_the_body(self):
        self.check("t(y), s(x, y), r(x)", "!x [r(x) * !y [s(x, y) * t(y)]]", "x", "", "")
        self.check("s(x, y), t(y), r(x)", "!x [!y [t(y) * s(x, y)] * r(x)]", "", "x", "")
        self.check("r(x), t(y), q()", "!y [t(y) * [q() * !x r(x)]]", "y", "", "y")

    def test_alphabetical_order(self):
        join = closed(atom("q"), atom("u", "b", "ab", "a"))
        plan = ("join", (("scan", 0), ("scan", 1)))
        for name in ("ab", "b", "a"):
            plan = ("project", name, plan)
        self.assertEqual(added_variables(join, plan), (("a", "ab", "b"), ()))

    def test_random_plans(self):
        source = random.Random(71)
        for _ in range(400):
            join = random_join(source, 5, "vwxyz", 4)
            plan = random_plan(source, join)
            added = plain_added(join, plan)
            expected = tuple([tuple(sorted(added[index])) for index in range(len(join[1]))])
            self.assertEqual(added_variables(join, plan), expected)

    def test_plans_that_are_not_valid(self):
        for join, plan in not_valid_plans():
            refuses(self, added_variables, join, plan)


class TestComparePlans(unittest.TestCase):
    turned = {"same": "same", "below": "above", "above": "below", "apart": "apart"}

    def check(self, answer, join_text, plan_text, other_text):
        join = read_join(join_text)
        plan, other = read_plan(join, plan_text), read_plan(join, other_text)
        with self.subTest(join=join_text, plan=plan_text, other=other_text):
            self.assertEqual(compare_plans(join, plan, other), answer)
            self.assertEqual(compare_plans(join, other, plan), self.turned[answer])

    def test_a_plan_with_itself(self):
        self.check("same", "q()", "q()", "q()")
        self.check("same", RST, "!x [r(x) * !y [s(x, y) * t(y)]]", "!x [r(x) * !y [s(x, y) * t(y)]]")
        self.check("same", "r(x), t(y)", "!x !y [r(x) * t(y)]", "!x !y [r(x) * t(y)]")

    def test_different_plans_that_are_the_same(self):
        self.check("same", "s(x, y)", "!x !y s(x, y)", "!y !x s(x, y)")
        self.check("same", "q(), r(1)", "[q() * r(1)]", "[r(1) * q()]")
        self.check("same", "r(x), t(y)", "!x !y [r(x) * t(y)]", "!y !x [t(y) * r(x)]")
        self.check("same", "q(), r(1), t(2)", "[q() * r(1) * t(2)]", "[q() * [t(2) * r(1)]]")

    def test_one_above_the_other(self):
        self.check("above", "r(x), t(y)", "!x !y [r(x) * t(y)]", "[!x r(x) * !y t(y)]")
        self.check("below", "r(x), t(y)", "!x [r(x) * !y t(y)]", "!x !y [r(x) * t(y)]")
        self.check("below", "r(x), s(x, y)", "!x [r(x) * !y s(x, y)]", "!x !y [r(x) * s(x, y)]")
        self.check("above", RST, "!x !y [r(x) * s(x, y) * t(y)]", "!x [r(x) * !y [s(x, y) * t(y)]]")
        self.check("below", RST, "!y [t(y) * !x [r(x) * s(x, y)]]", "!x !y [r(x) * s(x, y) * t(y)]")

    def test_plans_that_are_apart(self):
        self.check("apart", RST, "!x [r(x) * !y [s(x, y) * t(y)]]", "!y [t(y) * !x [r(x) * s(x, y)]]")
        self.check("apart", "r(x), t(y)", "!x [r(x) * !y t(y)]", "!y [t(y) * !x r(x)]")
        self.check("apart", "r(1), t(2), v(x, y)", "[t(2) * !x !y [r(1) * v(x, y)]]", "[r(1) * !x !y [t(2) * v(x, y)]]")

    def test_random_plans(self):
        source = random.Random(72)
        counts = dict.fromkeys(ANSWERS, 0)
        for _ in range(500):
            join = source.choice((random_join(source, 4, "wxyz", 3, (1, 2)), source.choice(LINKED)))
            plan, other = random_plan(source, join), random_plan(source, join)
            pair = (is_at_most(join, plan, other), is_at_most(join, other, plan))
            answer = {(True, True): "same", (True, False): "below", (False, True): "above"}.get(pair, "apart")
            counts[answer] += 1
            with self.subTest(join=join, plan=plan, other=other):
                self.assertEqual(compare_plans(join, plan, other), answer)
                self.assertEqual(compare_plans(join, other, plan), self.turned[answer])
                store = full_store(source, schema_of(join), 12)
                number, other_number = number_of(store, join, plan), number_of(store, join, other)
                self.assertTrue(answer not in ("same", "below") or number <= other_number)
                self.assertTrue(answer not in ("same", "above") or number >= other_number)
        self.assertGreater(min(counts.values()), 15)

    def test_plans_that_are_not_valid(self):
        for join, plan in not_valid_plans():
            valid = plan_of(join, all_variables(join)) if join[1] else plan
            refuses(self, compare_plans, join, plan, valid)
            refuses(self, compare_plans, join, valid, plan)
            refuses(self, compare_plans, join, plan, plan)


class TestStoreAbove(unittest.TestCase):
    def check(self, schema, join, plan, other):
        store = store_above(schema, join, plan, other)
        with self.subTest(join=join, plan=plan, other=other, store=store):
            if is_at_most(join, plan, other):
                self.assertIsNone(store)
                return 0
            self.assertEqual(make_store(schema, list(store)), store)
            self.assertLessEqual(len(store), 20)
            self.assertLessEqual(len([fact for fact in store if fact[2] not in ((0, 1), (1, 1))]), 8)
            self.assertGreater(number_of(store, join, plan), number_of(store, join, other))
            return 1

    def check_texts(self, is_above, join_text, plan_text, other_text):
        join = read_join(join_text)
        found = self.check(SCHEMA, join, read_plan(join, plan_text), read_plan(join, other_text))
        self.assertEqual(found, is_above)

    def test_plans_that_are_the_same_or_below(self):
        self.check_texts(0, "q()", "q()", "q()")
        self.check_texts(0, "s(x, y)", "!x !y s(x, y)", "!y !x s(x, y)")
        self.check_texts(0, "r(x), t(y)", "[!x r(x) * !y t(y)]", "!x !y [r(x) * t(y)]")
        self.check_texts(0, RST, "!x [r(x) * !y [s(x, y) * t(y)]]", "!x !y [r(x) * s(x, y) * t(y)]")

    def test_plans_that_are_above(self):
        self.check_texts(1, "r(x), t(y)", "!x !y [r(x) * t(y)]", "[!x r(x) * !y t(y)]")
        self.check_texts(1, "q(), r(x)", "!x [q() * r(x)]", "[q() * !x r(x)]")
        self.check_texts(1, RST, "!x !y [r(x) * s(x, y) * t(y)]", "!x [r(x) * !y [s(x, y) * t(y)]]")

    def test_plans_that_are_apart(self):
        plan, other = "!x [r(x) * !y [s(x, y) * t(y)]]", "!y [t(y) * !x [r(x) * s(x, y)]]"
        self.check_texts(1, RST, plan, other)
        self.check_texts(1, RST, other, plan)
        self.check_texts(1, "r(x), t(y)", "!x [r(x) * !y t(y)]", "!y [t(y) * !x r(x)]")

    def test_values_and_repeated_variables(self):
        source = random.Random(73)
        joins = (
            closed(atom("r", 1, "x"), ("s", (var("y"), value("a"), var("y"))), atom("t", "x", "y", 2)),
            closed(atom("r", "x", "x"), atom("s", "y", "x", "y", 1), atom("t", 1, 2), atom("u", 2, "z")),
            closed(atom("r"), atom("s", 2, "x", 1, "x"), atom("t", "y")),
        )
        above = 0
        for join in joins:
            for _ in range(60):
                above += self.check(schema_of(join), join, random_plan(source, join), random_plan(source, join))
        self.assertGreater(above, 40)

    def test_random_plans_and_tables_in_no_atom(self):
        source = random.Random(74)
        above = 0
        for _ in range(400):
            join = source.choice((random_join(source, 5, "vwxyz", 4), source.choice(LINKED)))
            schema = schema_of(join, closed(atom("a", 1), atom("z", 1, 2), atom("zz")))
            above += self.check(schema, join, random_plan(source, join), random_plan(source, join))
        self.assertGreater(above, 100)
        self.assertLess(above, 380)

    def test_the_greatest_joins(self):
        names = [first + second for first in "abcdefgh" for second in "stuvwxyz"]
        join = closed(*[atom("r" + "abcdefgh"[k], *names[k * 8:k * 8 + 8]) for k in range(8)])
        plan = ("join", tuple([("scan", k) for k in range(8)]))
        for name in names:
            plan = ("project", name, plan)
        other = plan_of(join, names)
        store = store_above(schema_of(join), join, plan, other)
        self.assertEqual(make_store(schema_of(join), list(store)), store)
        self.assertLessEqual(len(store), 20)
        numbers = number_of_plan(store, join, plan), number_of_plan(store, join, other)
        self.assertEqual(numbers, ((3, 4), (1, 2)))
        self.assertIsNone(store_above(schema_of(join), join, other, plan))

    def test_plans_that_are_not_valid(self):
        for join, plan in not_valid_plans():
            valid = plan_of(join, all_variables(join)) if join[1] else plan
            schema = schema_of(join)
            refuses(self, store_above, schema, join, plan, valid)
            refuses(self, store_above, schema, join, valid, plan)
            refuses(self, store_above, schema, join, plan, plan)


def least_by_hand(join):
    """The least plans, from all pairs of orders."""
    plans = [plan_of(join, order) for order in permutations(all_variables(join))]
    least = []
    for plan in plans:
        at_most = [other for other in plans if is_at_most(join, other, plan)]
        if all(is_at_most(join, plan, other) for other in at_most):
            if not any(is_at_most(join, plan, earlier) for earlier in least):
                least.append(plan)
    return tuple(least)


class TestLeastPlans(unittest.TestCase):
    def check(self, join, *texts):
        with self.subTest(join=join):
            plans = least_plans(join)
            self.assertEqual([write_plan(join, plan) for plan in plans], list(texts))
            self.assertEqual(plans, least_by_hand(join))

    def test_no_variables(self):
        self.check(closed(atom("r")), "r()")
        self.check(closed(atom("r", 1)), "r(1)")
        self.check(closed(atom("t", 2), atom("r", 1), atom("s")), "[t(2) * r(1) * s()]")

    def test_one_variable(self):
        self.check(closed(atom("r", "x")), "!x r(x)")
        self.check(closed(atom("r", "x"), atom("q"), atom("s", "x", 1)), "[!x [r(x) * s(x, 1)] * q()]")

    def test_hierarchical_joins_have_one(self):
        self.check(closed(atom("r", "x"), atom("s", "x", "y")), "!x [r(x) * !y s(x, y)]")
        self.check(closed(atom("r", "x"), atom("t", "y")), "[!x r(x) * !y t(y)]")
        self.check(closed(atom("s", "y", "x")), "!y !x s(y, x)")
        source = random.Random(75)
        for _ in range(200):
            join = random_join(source, 4, "wxyz", 3)
            if is_hierarchical(join):
                self.assertEqual(len(least_plans(join)), 1)

    def test_joins_with_two_and_more(self):
        self.check(closed(atom("r", "x"), atom("s", "x", "y"), atom("t", "y")),
                   "!y [!x [r(x) * s(x, y)] * t(y)]", "!x [r(x) * !y [s(x, y) * t(y)]]")
        self.check(closed(atom("r", "y"), atom("s", "y", "x"), atom("t", "x")),
                   "!y [r(y) * !x [s(y, x) * t(x)]]", "!x [!y [r(y) * s(y, x)] * t(x)]")
        join = closed(atom("r", "x", "y"), atom("s", "y", "z"), atom("t", "z", "x"))
        self.check(join, "!z !y [!x [r(x, y) * t(z, x)] * s(y, z)]", "!z !x [!y [r(x, y) * s(y, z)] * t(z, x)]",
                   "!y !x [r(x, y) * !z [s(y, z) * t(z, x)]]")

    def test_of_plans_that_are_the_same_only_the_first_one(self):
        self.check(closed(atom("u", "c", "b", "a")), "!c !b !a u(c, b, a)")
        self.check(closed(atom("r", "b"), atom("s", "a")), "[!b r(b) * !a s(a)]")
        join = closed(atom("r", "x"), atom("s", "x", "y"), atom("t", "y"), atom("u", "z"))
        self.check(join, "[!y [!x [r(x) * s(x, y)] * t(y)] * !z u(z)]", "[!x [r(x) * !y [s(x, y) * t(y)]] * !z u(z)]")

    def test_orders_are_compared_word_by_word(self):
        join = closed(atom("r", "b"), atom("s", "b", "ab"), atom("t", "ab"))
        self.check(join, "!b [r(b) * !ab [s(b, ab) * t(ab)]]", "!ab [!b [r(b) * s(b, ab)] * t(ab)]")

    def test_random_joins(self):
        source = random.Random(76)
        several = 0
        for _ in range(150):
            join = source.choice((random_join(source, 5, "wxyz", 3), source.choice(LINKED)))
            plans = least_plans(join)
            with self.subTest(join=join):
                self.assertEqual(plans, least_by_hand(join))
                self.assertIs(type(plans), tuple)
            several += len(plans) > 1
        self.assertGreater(several, 40)

    def test_each_valid_plan_is_the_same_as_one_of_them_or_above_it(self):
        source = random.Random(77)
        for _ in range(300):
            join = source.choice((random_join(source, 5, "vwxyz", 3), source.choice(LINKED)))
            plan = random_plan(source, join)
            found = [compare_plans(join, plan, least) for least in least_plans(join)]
            self.assertTrue("same" in found or "above" in found)

    def test_six_variables_in_good_time(self):
        names = "abcdef"
        for join, count in (
            (closed(*[atom("rstuvw"[k], names[k], names[k - 5]) for k in range(6)]), 126),
            (closed(*[atom("r" + x, x) for x in names], atom("s", *names)), 720),
            (closed(*[atom("r" + x, x) for x in names]), 1),
            (closed(atom("r", *names), atom("s", *names)), 1),
        ):
            plans = least_plans(join)
            self.assertEqual(len(plans), count)
            for plan in plans[:40]:
                self.assertTrue(is_valid(join, plan))
            for plan, other in combinations(plans[:40], 2):
                self.assertEqual(compare_plans(join, plan, other), "apart")


if __name__ == "__main__":
    unittest.main()
