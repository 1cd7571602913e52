"""Plans: which are valid, their columns and their numbers ([20] to [22])."""

import random
import unittest
from fractions import Fraction

from rightchance.plans import atoms_beneath, columns_of, is_plan, number_of_plan, numbers_of
from rightchance.shares import any_of, product_of
from tests.oracles import (
    LINKED, atom, chance_of_join, closed, full_store, indexes_in, is_valid, number_of, pair, parts_in, plain_columns,
    plain_numbers, random_join, random_plan, random_store, schema_of, value, var,
)

HUGE = 10 ** 150
A, B, C = ("scan", 0), ("scan", 1), ("scan", 2)
RST = closed(atom("r", "x"), atom("s", "x", "y"), atom("t", "y"))


def project(variables, plan):
    for x in variables[::-1]:
        plan = ("project", x, plan)
    return plan


def join_of(*plans):
    return ("join", plans)


class TestIsPlan(unittest.TestCase):
    def check(self, expected, join, plan):
        with self.subTest(join=join, plan=plan):
            self.assertIs(is_plan(join, plan), expected)

    def test_the_join_without_atoms(self):
        for plan in (A, ("scan", -1), join_of(), join_of(A, B), project("x", A), project("x", join_of()),
                     join_of(join_of(), join_of())):
            self.check(False, ((), ()), plan)

    def test_single_scans(self):
        self.check(True, closed(atom("r")), A)
        self.check(True, closed(atom("r", 1, 2)), A)
        self.check(False, closed(atom("r", "x")), A)

    def test_indexes_that_are_no_atoms(self):
        for index in (-HUGE, -2, -1, 1, 2, HUGE):
            self.check(False, closed(atom("r")), ("scan", index))
            self.check(False, closed(atom("r")), join_of(A, ("scan", index)))
        for index in (-3, -2, -1, 3, HUGE):
            self.check(False, closed(atom("r"), atom("s"), atom("t")), join_of(A, B, ("scan", index)))
            self.check(False, closed(atom("r"), atom("s"), atom("t")), join_of(A, B, C, ("scan", index)))

    def test_an_atom_that_is_scanned_twice_or_not_at_all(self):
        join = closed(atom("r"), atom("s"), atom("t"))
        self.check(True, join, join_of(A, B, C))
        self.check(True, join, join_of(C, join_of(B, A)))
        self.check(False, join, join_of(A, B))
        self.check(False, join, join_of(A, B, B))
        self.check(False, join, join_of(A, B, C, C))
        self.check(False, join, join_of(join_of(A, B), join_of(B, C)))
        self.check(False, join, B)

    def test_joins_of_few_plans(self):
        join = closed(atom("r"), atom("s"))
        self.check(True, join, join_of(A, B))
        self.check(False, join, join_of())
        self.check(False, join, join_of(join_of(A, B)))
        self.check(False, join, join_of(join_of(A), B))
        self.check(False, join, join_of(A, B, join_of()))
        self.check(False, closed(atom("r")), join_of(A))
        self.check(False, closed(atom("r")), join_of(join_of(), A))
        self.check(False, closed(atom("r", "x")), project("x", join_of(A)))

    def test_projections(self):
        self.check(True, closed(atom("r", "x")), project("x", A))
        self.check(True, closed(atom("r", "x", "x", 1)), project("x", A))
        self.check(True, closed(atom("r", "x", "y")), project("xy", A))
        self.check(True, closed(atom("r", "x", "y")), project("yx", A))
        self.check(True, RST, project("x", join_of(A, project("y", join_of(B, C)))))
        self.check(True, RST, project("xy", join_of(A, B, C)))
        self.check(True, RST, project("y", join_of(C, project("x", join_of(B, A)))))

    def test_a_variable_that_is_projected_twice(self):
        join = closed(atom("r", "x"), atom("s", "x"))
        self.check(False, closed(atom("r", "x")), project("xx", A))
        self.check(False, join, join_of(project("x", A), project("x", B)))
        self.check(False, join, project("x", join_of(project("x", A), B)))
        self.check(False, join, project("x", join_of(project("x", A), project("x", B))))
        self.check(True, join, project("x", join_of(A, B)))

    def test_a_variable_that_is_not_projected(self):
        self.check(False, RST, project("x", join_of(A, B, C)))
        self.check(False, RST, join_of(A, B, C))
        self.check(False, closed(atom("r"), atom("s", "x")), join_of(A, B))

    def test_a_variable_that_is_no_column(self):
        self.check(False, closed(atom("r")), project("x", A))
        self.check(False, closed(atom("r", "x")), project("yx", A))
        self.check(False, closed(atom("r", "x")), project("xy", A))
        self.check(False, closed(("r", (value("x"),))), project("x", A))
        self.check(False, RST, project("xy", join_of(project("y", A), project("x", B), C)))
        self.check(False, closed(atom("r", "x")), project(["xx"], project("x", A)))

    def test_strings_that_are_no_words(self):
        for text in ("", "A", "x ", " x", "1", "x\n", "_"):
            self.check(False, closed(atom("r", "x")), ("project", text, A))
            self.check(False, closed(atom("r", "x")), ("project", text, project("x", A)))

    def test_a_variable_that_stands_outside(self):
        self.check(False, RST, join_of(project("x", A), project("xy", join_of(B, C))))
        self.check(False, RST, project("x", join_of(A, project("y", B), project("y", C))))
        self.check(False, RST, project("y", join_of(project("x", A), B, C)))
        self.check(False, closed(atom("r", "x"), atom("s", "x")), project("x", join_of(project("x", A), B)))

    def test_random_plans(self):
        source = random.Random(21)
        for _ in range(300):
            join = random_join(source)
            self.check(True, join, random_plan(source, join))

    def test_random_plans_that_are_changed(self):
        source = random.Random(22)
        seen = []
        for _ in range(1500):
            join = random_join(source)
            plan = changed_plan(source, random_plan(source, join), 0.2)
            expected = is_valid(join, plan) if all(0 <= k < len(join[1]) for k in indexes_in(plan)) else False
            seen.append(expected)
            self.check(expected, join, plan)
        self.assertGreater(seen.count(True), 300)
        self.assertGreater(seen.count(False), 300)

    def test_many_parts_in_good_time(self):
        for plan in plans_of_repeated_parts():
            self.assertIs(is_plan(RST, plan), False)
            self.assertIs(is_plan(closed(atom("r"), atom("s")), plan), False)

    def test_deep_plans(self):
        names = [first + second for first in "abcdefgh" for second in "stuvw"]
        join = closed(*[atom("r" + names[k], *names[k:k + 8]) for k in range(0, 40, 8)])
        plan = ("join", tuple([("scan", k) for k in range(5)]))
        for name in names[:39]:
            self.check(False, join, plan)
            plan = ("project", name, plan)
        self.check(True, join, ("project", names[39], plan))


def changed_plan(source, plan, often):
    """The plan with some of its parts changed."""
    if plan[0] == "join":
        plans = [changed_plan(source, part, often) for part in plan[1]]
        if source.random() < often / 3:
            plans.append(source.choice(plans))
        if source.random() < often / 3:
            del plans[source.randrange(len(plans))]
        return ("join", tuple(plans))
    if plan[0] == "project":
        inner = changed_plan(source, plan[2], often)
        x = source.choice("xyz") if source.random() < often else plan[1]
        return inner if source.random() < often / 4 else ("project", x, inner)
    index = source.randint(-1, 4) if source.random() < often / 2 else plan[1]
    return ("project", source.choice("xyz"), ("scan", index)) if source.random() < often / 4 else ("scan", index)


class TestColumnsOf(unittest.TestCase):
    def check(self, join, plan, names):
        with self.subTest(join=join, plan=plan):
            self.assertEqual(columns_of(join, plan), tuple(names))
            self.assertIs(type(columns_of(join, plan)), tuple)

    def test_scans(self):
        self.check(RST, A, "x")
        self.check(RST, B, "xy")
        self.check(closed(atom("r", "z", "b", "z", 1, "ab")), A, ["ab", "b", "z"])
        self.check(closed(atom("r")), A, "")
        self.check(closed(("r", (value("x"), value(1)))), A, "")

    def test_joins(self):
        self.check(RST, join_of(C, A), "xy")
        self.check(RST, join_of(A, A), "x")
        self.check(RST, join_of(B, C, A), "xy")
        self.check(RST, join_of(A), "x")
        self.check(RST, join_of(), "")
        self.check(RST, join_of(join_of(), join_of(C)), "y")
        self.check(((), ()), join_of(), "")

    def test_projections(self):
        self.check(RST, project("x", B), "y")
        self.check(RST, project("xy", B), "")
        self.check(RST, project("x", join_of(A, B, C)), "y")
        self.check(RST, project("y", A), "x")
        self.check(RST, project(["", "xx"], A), "x")
        self.check(RST, project("x", join_of()), "")

    def test_plans_that_are_valid_only_in_part(self):
        self.check(RST, join_of(project("x", A), B), "xy")
        self.check(RST, join_of(A, project("x", B)), "xy")
        self.check(RST, project("x", join_of(project("x", A), project("y", B))), "")
        self.check(RST, join_of(project("x", join_of(A, B)), project("y", C)), "y")

    def test_random_plans(self):
        source = random.Random(23)
        for _ in range(300):
            join = random_join(source)
            plan = changed_plan(source, random_plan(source, join), 0.3)
            if all(0 <= k < len(join[1]) for k in indexes_in(plan)):
                for part in parts_in(plan):
                    self.check(join, part, plain_columns(join, part))


    def test_many_parts_in_good_time(self):
        # Without check, which would show the whole plan if something is wrong with it.
        for plan in plans_of_repeated_parts():
            self.assertEqual(columns_of(RST, plan), ("x", "y"))


def plans_of_repeated_parts():
    """Plans that are built of the same parts over and over; their columns are x and y, and their atoms 0 and 1."""
    doubled, mixed, projected = join_of(A, B), join_of(A, B), join_of(A, B)
    for _ in range(39):
        doubled = join_of(doubled, doubled)
        mixed = join_of(mixed, A, mixed, B, mixed)
    for _ in range(19):
        projected = join_of(projected, project("z", projected))
    return doubled, mixed, projected, ("join", (A, B) * 5000)


class TestAtomsBeneath(unittest.TestCase):
    def check(self, plan, *indexes):
        self.assertEqual(atoms_beneath(plan), indexes)
        self.assertIs(type(atoms_beneath(plan)), tuple)

    def test_each_form(self):
        self.check(A, 0)
        self.check(project("xy", C), 2)
        self.check(join_of(C, A), 0, 2)
        self.check(join_of(C, project("x", join_of(B, A))), 0, 1, 2)

    def test_plans_that_are_not_valid(self):
        self.check(join_of())
        self.check(join_of(A), 0)
        self.check(join_of(B, A, B, B, A), 0, 1)
        self.check(join_of(("scan", HUGE), ("scan", -HUGE), ("scan", -1), A, ("scan", 10), ("scan", 9)),
                   -HUGE, -1, 0, 9, 10, HUGE)
        self.check(join_of(join_of(), project("", join_of(("scan", 7)))), 7)

    def test_many_parts_in_good_time(self):
        for plan in plans_of_repeated_parts():
            self.check(plan, 0, 1)


STORE = (
    ("r", (1,), (1, 2)), ("r", (2,), (1, 3)), ("r", ("a",), (0, 1)),
    ("s", (1, 1), (1, 2)), ("s", (1, "b"), (2, 3)), ("s", (2, 1), (1, 1)), ("s", (7, 7), (4, 5)),
    ("t", (1,), (3, 4)), ("t", ("b",), (1, 5)), ("t", ("c",), (1, 1)),
)


class TestNumbersOf(unittest.TestCase):
    def check(self, join, plan, *pairs, store=STORE):
        with self.subTest(join=join, plan=plan):
            self.assertEqual(numbers_of(store, join, plan), pairs)
            self.assertEqual(plain_numbers(store, join, plan), pairs)

    def test_scans(self):
        self.check(RST, A, ((1,), (1, 2)), ((2,), (1, 3)))
        self.check(RST, B, ((1, 1), (1, 2)), ((1, "b"), (2, 3)), ((2, 1), (1, 1)), ((7, 7), (4, 5)))
        turned = closed(atom("s", "y", "x"))
        self.check(turned, A, ((1, 1), (1, 2)), ((1, 2), (1, 1)), ((7, 7), (4, 5)), (("b", 1), (2, 3)))

    def test_scans_with_values_and_repeated_variables(self):
        self.check(closed(atom("s", "x", "x")), A, ((1,), (1, 2)), ((7,), (4, 5)))
        self.check(closed(atom("s", 1, "x")), A, ((1,), (1, 2)), (("b",), (2, 3)))
        self.check(closed(("s", (var("x"), value("b")))), A, ((1,), (2, 3)))
        self.check(closed(atom("s", 1, 1)), A, ((), (1, 2)))
        self.check(closed(atom("s", 1, 2)), A)
        self.check(closed(atom("r", "x")), A, store=())

    def test_tables_without_columns(self):
        self.check(closed(atom("q")), A, ((), (2, 9)), store=(("q", (), (2, 9)),))
        self.check(closed(atom("q")), A, store=(("q", (), (0, 1)),))
        self.check(closed(atom("q")), A, store=())

    def test_joins_with_common_columns(self):
        self.check(RST, join_of(A, B), ((1, 1), (1, 4)), ((1, "b"), (1, 3)), ((2, 1), (1, 3)))
        self.check(RST, join_of(C, B, A), ((1, 1), (3, 16)), ((1, "b"), (1, 15)), ((2, 1), (1, 4)))
        same = closed(atom("r", "x"), atom("t", "x"))
        self.check(same, join_of(A, B), ((1,), (3, 8)))

    def test_joins_with_no_common_columns(self):
        self.check(RST, join_of(A, C), ((1, 1), (3, 8)), ((1, "b"), (1, 10)), ((1, "c"), (1, 2)),
                   ((2, 1), (1, 4)), ((2, "b"), (1, 15)), ((2, "c"), (1, 3)))
        join = closed(atom("r", 1), atom("t", "y"))
        self.check(join, join_of(A, B), ((1,), (3, 8)), (("b",), (1, 10)), (("c",), (1, 2)))
        self.check(closed(atom("r", 9), atom("t", "y")), join_of(A, B))

    def test_projections(self):
        self.check(RST, project("y", B), ((1,), (5, 6)), ((2,), (1, 1)), ((7,), (4, 5)))
        self.check(RST, project("x", A), ((), (2, 3)))
        self.check(RST, project("x", join_of(A, B)), ((1,), (1, 2)), (("b",), (1, 3)))
        self.check(RST, project("x", join_of(A, C)), ((1,), (17, 32)), (("b",), (4, 25)), (("c",), (2, 3)))
        self.check(closed(atom("r", "x")), project("x", A), store=(("r", (1,), (0, 1)),))

    def test_rows_are_in_ascending_order(self):
        store = tuple([("r", (v,), (1, 2)) for v in (-10, -9, 0, 9, 10, "a", "ab", "b")])
        self.check(closed(atom("r", "x")), A, *[((fact[1]), (1, 2)) for fact in store], store=store)

    def test_results_are_tuples(self):
        self.assertEqual(repr(numbers_of(STORE, RST, A)), "(((1,), (1, 2)), ((2,), (1, 3)))")
        self.assertEqual(numbers_of((), RST, A), ())

    def test_long_denominators(self):
        n, d = 10 ** 59 - 3, 10 ** 59
        store = tuple([("r", (k,), (n, d)) for k in range(100)] + [("s", (k, 1), (n, d)) for k in range(100)])
        m, e = n * n, d * d
        self.assertEqual(numbers_of(store, RST, join_of(A, B))[7], ((7, 1), (m, e)))
        rest = (e - m) ** 100
        self.assertEqual(numbers_of(store, RST, project("x", join_of(A, B))), (((1,), (e ** 100 - rest, e ** 100)),))

    def test_random_plans(self):
        source = random.Random(24)
        for _ in range(250):
            join = random_join(source, 3)
            store = random_store(source, schema_of(join), 8)
            for part in parts_in(random_plan(source, join)):
                with self.subTest(join=join, store=store, part=part):
                    self.assertEqual(numbers_of(store, join, part), plain_numbers(store, join, part))


class TestNumberOfPlan(unittest.TestCase):
    def check(self, join, plan, number, store=STORE):
        with self.subTest(join=join, plan=plan):
            self.assertEqual(number_of_plan(store, join, plan), number)
            self.assertEqual(pair(number_of(store, join, plan)), number)

    def test_the_plan_of_a_single_atom(self):
        self.check(closed(atom("r", 1)), A, (1, 2))
        self.check(closed(atom("r", 9)), A, (0, 1))
        self.check(closed(("r", (value("a"),))), A, (0, 1))
        self.check(closed(atom("r", "x")), project("x", A), (2, 3))
        self.check(closed(atom("q")), A, (1, 1), (("q", (), (1, 1)),))

    def test_no_rows(self):
        self.check(RST, project("xy", join_of(A, B, C)), (0, 1), ())
        self.check(closed(atom("r", "x"), atom("u", "x")), project("x", join_of(A, B)), (0, 1))

    def test_the_chances_zero_and_one(self):
        store = (("r", (1,), (1, 1)), ("r", (2,), (0, 1)), ("s", (1,), (0, 1)), ("s", (2,), (1, 1)))
        self.check(closed(atom("r", "x")), project("x", A), (1, 1), store)
        self.check(closed(atom("r", "x"), atom("s", "x")), project("x", join_of(A, B)), (0, 1), store)
        self.check(closed(atom("r", "x"), atom("s", "y")), project("xy", join_of(A, B)), (1, 1), store)

    def test_different_plans_of_one_join(self):
        self.check(RST, project("x", join_of(A, project("y", join_of(B, C)))), pair(chance_by_hand("x")))
        self.check(RST, project("y", join_of(C, project("x", join_of(A, B)))), pair(chance_by_hand("y")))

    def test_plans_deep_inside_one_another(self):
        names = [first + second for first in "abcdefgh" for second in "stuvw"]
        body = [atom("r" + names[k], *names[k:k + 8]) for k in range(0, 40, 8)]
        join = closed(*body)
        plan = ("join", tuple([("scan", k) for k in range(5)]))
        for name in names:
            plan = ("project", name, plan)
        facts = [(name, (k,) * 8, (1, 3)) for name, _ in body for k in (1, 2)]
        # Each way to choose a row for each atom gives one row of the join, whose number counts on its own.
        number = any_of([product_of([(1, 3)] * 5)] * 32)
        self.assertEqual(number_of_plan(tuple(sorted(facts)), join, plan), number)

    def test_the_number_is_a_chance_that_is_never_less_than_that_of_the_join(self):
        source = random.Random(25)
        greater = 0
        for _ in range(150):
            join = source.choice((random_join(source, 3, "xyz", 2, (1, 2)), source.choice(LINKED)))
            store = full_store(source, schema_of(join), 9)
            plan = random_plan(source, join)
            with self.subTest(join=join, store=store, plan=plan):
                n, d = number_of_plan(store, join, plan)
                self.assertEqual((n, d), pair(number_of(store, join, plan)))
                self.assertLessEqual(n, d)
                chance = chance_of_join(store, join)
                self.assertGreaterEqual(n * chance.denominator, d * chance.numerator)
                greater += n * chance.denominator > d * chance.numerator
        self.assertGreater(greater, 20)

    def test_many_facts_in_good_time(self):
        facts = [("r", (k % 14, k // 14), (1, k + 2)) for k in range(66)]
        facts.extend([("s", (k % 14, k // 14), (1, k + 2)) for k in range(66)])
        facts.extend([("t", (k,), (1, k + 2)) for k in range(66)])
        store = tuple(facts)
        join = closed(atom("r", "x", "y"), atom("s", "y", "z"), atom("t", "z"))
        plan = project("y", join_of(project("x", A), project("z", join_of(B, C))))
        n, d = number_of_plan(store, join, plan)
        self.assertTrue(0 < n < d)
        # A part with many rows whose columns other parts tie together.
        lone = [("abcdef"[k % 6], (k // 6,), (1, k + 2)) for k in range(168)]
        names = ["x" + name for name in "abcdef"]
        linked = closed(*[atom(name, "x" + name) for name in "abcdef"], atom("z", *names))
        plan = project(names, join_of(*[("scan", k) for k in range(7)]))
        store = tuple(sorted(lone + [("z", (k,) * 6, (1, 2)) for k in range(28)]))
        numbers = [product_of([(1, 2)] + [(1, k + shift) for shift in range(2, 8)]) for k in range(0, 168, 6)]
        self.assertEqual(number_of_plan(store, linked, plan), any_of(numbers))


def chance_by_hand(first):
    """The number of the two plans for RST, reckoned with fractions over the rows of s."""
    rows = {(1, 1): (1, 2), (1, "b"): (2, 3), (2, 1): (1, 1)}
    left, right = {1: (1, 2), 2: (1, 3)}, {1: (3, 4), "b": (1, 5)}
    inner, outer = (right, left) if first == "x" else (left, right)
    groups = {}
    for (x, y), chance in rows.items():
        key, other = (x, y) if first == "x" else (y, x)
        groups.setdefault(key, []).append(product_of([chance, inner[other]]))
    n, d = any_of([product_of([outer[key], any_of(group)]) for key, group in groups.items()])
    return Fraction(n, d)


if __name__ == "__main__":
    unittest.main()
