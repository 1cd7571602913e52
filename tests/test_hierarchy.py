"""The atoms of variables, hierarchical joins and clashes ([25]), and right plans ([26])."""

import random
import unittest
from fractions import Fraction
from itertools import combinations, product

from rightchance.errors import NoPlan
from rightchance.hierarchy import atoms_of, clash_of, is_hierarchical, right_plan
from rightchance.judging import is_right
from rightchance.plans import is_plan, number_of_plan
from rightchance.reading import read_question
from rightchance.writing import write_plan
from tests.oracles import (
    all_variables, atom, chance_of_join, closed, is_valid, pair, plan_of, random_join, random_store, schema_of,
    unsafe_in, var,
)
from tests.oracles import is_hierarchical as hierarchical

SCHEMA = (("q", 0), ("r", 1), ("s", 2), ("t", 1), ("u", 3), ("v", 2))


def read_join(text):
    return read_question(SCHEMA, "[] " + text)[1][0]


def clash_by_hand(join):
    """The least clash, from all tuples that might be one."""
    atoms = {x: {k for k, (_, terms) in enumerate(join[1]) if var(x) in terms} for x in all_variables(join)}
    for x, y in combinations(all_variables(join), 2):
        for i, j, k in product(range(len(join[1])), repeat=3):
            if i in atoms[x] - atoms[y] and j in atoms[x] & atoms[y] and k in atoms[y] - atoms[x]:
                return (x, y, i, j, k)
    return None


class TestAtomsOf(unittest.TestCase):
    def check(self, text, variable, *atoms):
        self.assertEqual(atoms_of(read_join(text), variable), atoms)

    def test_each_variable(self):
        self.check("r(x)", "x", 0)
        self.check("r(x), s(x, y), t(y)", "x", 0, 1)
        self.check("r(x), s(x, y), t(y)", "y", 1, 2)
        self.check("q(), u(z, y, x), s(x, 1), t(x), r(z)", "x", 1, 2, 3)
        self.check("q(), u(z, y, x), s(x, 1), t(x), r(z)", "y", 1)
        self.check("q(), u(z, y, x), s(x, 1), t(x), r(z)", "z", 1, 4)

    def test_a_variable_twice_in_one_atom(self):
        self.check("s(x, x)", "x", 0)
        self.check("u(x, y, x), s(y, y), v(x, x)", "x", 0, 2)
        self.check("u(x, y, x), s(y, y), v(x, x)", "y", 0, 1)

    def test_values_and_tables_spelled_like_the_variable(self):
        self.check('s(x, "y"), r("x"), t(y)', "x", 0)
        self.check('s(x, "y"), r("x"), t(y)', "y", 2)
        self.check("r(s), s(r, t)", "r", 1)
        self.check("r(s), s(r, t)", "s", 0)

    def test_many_atoms(self):
        join = closed(*[atom("r" + name, "x", name) for name in "abcdefgh"])
        self.assertEqual(atoms_of(join, "x"), tuple(range(8)))
        self.assertEqual(atoms_of(join, "e"), (4,))


class TestClashOf(unittest.TestCase):
    def check(self, join, clash):
        with self.subTest(join=join):
            self.assertEqual(clash_of(join), clash)
            self.assertIs(is_hierarchical(join), clash is None)
            self.assertEqual(clash_by_hand(join), clash)

    def check_text(self, text, *clash):
        self.check(read_join(text), clash if clash else None)

    def test_no_variable_and_one(self):
        self.check(((), ()), None)
        self.check_text("q()")
        self.check_text("r(1), s(2, 3)")
        self.check_text("r(x)")
        self.check_text("r(x), s(x, x), t(1)")

    def test_equal_sets_of_atoms(self):
        self.check_text("s(x, y)")
        self.check_text("s(x, y), u(y, x, y), q()")
        self.check_text("s(x, y), v(y, x), u(x, y, z)")

    def test_sets_without_a_common_atom(self):
        self.check_text("r(x), t(y)")
        self.check_text("r(x), s(x, 1), t(y), v(y, y)")

    def test_one_set_in_the_other(self):
        self.check_text("r(x), s(x, y)")
        self.check_text("r(y), s(x, y), u(x, y, z)")

    def test_the_example_of_the_document(self):
        self.check_text("r(x), s(x, y), t(y)", "x", "y", 0, 1, 2)

    def test_the_order_of_the_two_variables(self):
        self.check_text("r(y), s(x, y), t(x)", "x", "y", 2, 1, 0)
        self.check_text("s(y, x), t(x), r(y)", "x", "y", 1, 0, 2)

    def test_the_least_variables(self):
        self.check_text("u(z, y, x), r(x), t(y), v(z, 1)", "x", "y", 1, 0, 2)
        self.check_text("u(z, y, x), v(x, y), s(z, y), r(z)", "x", "z", 1, 0, 2)
        self.check_text("s(c, b), v(b, a), r(c), t(a), q()", "a", "b", 3, 1, 0)
        join = closed(atom("r", "ab"), atom("s", "ab", "b"), atom("t", "b"), atom("u", "a", "b"), atom("v", "a"))
        self.check(join, ("a", "b", 4, 3, 1))
        join = closed(atom("r", "b"), atom("s", "b", "ab"), atom("t", "ab"))
        self.check(join, ("ab", "b", 2, 1, 0))

    def test_the_least_indexes(self):
        join = closed(atom("q", "y"), atom("r", "x"), atom("s", "x", "y"), atom("t", "x", "y"), atom("u", "x"),
                      atom("v", "y"))
        self.check(join, ("x", "y", 1, 2, 0))
        self.check((join[0], join[1][::-1]), ("x", "y", 1, 2, 0))
        self.check((join[0], join[1][2:] + join[1][:2]), ("x", "y", 2, 0, 3))

    def test_random_joins(self):
        source = random.Random(37)
        clashes = 0
        for _ in range(600):
            join = random_join(source, 6, "vwxyz", 4)
            clash = clash_by_hand(join)
            self.check(join, clash)
            self.assertIs(clash is None, hierarchical(join))
            clashes += clash is not None
        self.assertGreater(clashes, 200)
        self.assertLess(clashes, 500)

    def test_the_greatest_joins(self):
        names = [first + second for first in "abcdefgh" for second in "stuvwxyz"]
        join = closed(*[atom("r" + "abcdefgh"[k], *names[k * 7:k * 7 + 8]) for k in range(8)])
        self.check(join, clash_by_hand(join))
        self.assertIs(is_hierarchical(join), False)


class TestRightPlan(unittest.TestCase):
    def check_join(self, join):
        with self.subTest(join=join):
            if hierarchical(join) and join[1]:
                plan = right_plan(join)
                self.assertTrue(is_valid(join, plan))
                self.assertTrue(is_plan(join, plan))
                self.assertIs(is_right(join, plan), True)
                self.assertEqual(unsafe_in(join, plan), ())
            else:
                with self.assertRaises(NoPlan) as caught:
                    right_plan(join)
                self.assertIs(type(caught.exception), NoPlan)

    def check(self, has_one, *texts):
        for text in texts:
            join = read_join(text)
            self.assertIs(hierarchical(join), has_one)
            self.check_join(join)

    def test_the_join_without_atoms(self):
        self.check_join(((), ()))

    def test_joins_that_are_hierarchical(self):
        self.check(True, "q()", "r(1)", "r(x)", "s(x, x)", "s(x, y)", "r(x), s(x, y)", "r(x), s(x, y), u(x, y, z)")

    def test_joins_that_are_not(self):
        self.check(False, "r(x), s(x, y), t(y)", "r(x), u(x, y, 1), t(y), q()", "s(x, y), u(y, z, z), r(x), t(z)")
        for text in ("r(x), u(z, x, y), t(y)", "u(z, z, x), s(x, y), t(y)"):
            self.check_join(read_join(text))

    def test_parts_with_no_common_variable(self):
        self.check(True, "r(x), t(y)", "q(), r(x)", "q(), r(1)", "r(x), s(y, z)", "r(x), s(x, y), t(z), q()")
        self.check(False, "r(x), s(x, y), t(y), q()")

    def test_variables_in_all_atoms(self):
        self.check(True, "r(x), s(x, 1), u(x, x, x)", "r(x), t(x), s(x, x)", "s(x, y), u(y, x, z), r(x)")

    def test_atoms_with_only_values(self):
        self.check(True, "r(1), s(x, y)", "r(1), t(2), s(3, 4), q()", "r(1), s(x, 2)")
        self.check(False, "r(x), s(x, y), t(y), u(1, 2, 3)")

    def test_equal_sets_of_variables(self):
        self.check(True, "s(x, y), u(x, y, x)", "s(x, y), u(y, x, 1)", "s(x, y), u(y, x, z)", "r(x), t(x)")

    def test_the_plan_of_a_single_atom(self):
        self.assertEqual(right_plan(read_join("q()")), ("scan", 0))
        self.assertEqual(right_plan(read_join("r(x)")), ("project", "x", ("scan", 0)))

    def test_random_joins(self):
        source = random.Random(34)
        counts = [0, 0]
        for _ in range(500):
            join = random_join(source, 5, "vwxyz", 4)
            counts[hierarchical(join)] += 1
            self.check_join(join)
        self.assertGreater(min(counts), 100)

    def test_the_number_is_the_chance_of_the_join(self):
        source = random.Random(35)
        for _ in range(200):
            join = random_join(source, 3, values=(1, 2))
            if hierarchical(join):
                store = random_store(source, schema_of(join), 6, (1, 2))
                with self.subTest(join=join, store=store):
                    number = number_of_plan(store, join, right_plan(join))
                    self.assertEqual(number, pair(chance_of_join(store, join)))

    def test_a_join_has_a_right_plan_exactly_if_some_order_has(self):
        source = random.Random(36)
        for _ in range(200):
            join = random_join(source, 4)
            names = all_variables(join)
            orders = [names, names[::-1], names[1:] + names[:1], names[2:] + names[:2]]
            orders.extend([names[:1] + names[1:][::-1], names[::-1][1:] + names[::-1][:1]])
            some = any(unsafe_in(join, plan_of(join, order)) == () for order in orders)
            self.assertIs(some, hierarchical(join))

    def test_the_greatest_joins(self):
        nested = closed(*[atom("r" + "abcdefgh"[k], *"abcdefgh"[:k + 1]) for k in range(8)])
        self.check_join(nested)
        plan = right_plan(nested)
        self.assertEqual(write_plan(nested, plan).count("!"), 8)
        parts = closed(*[atom("r" + x, *[x + y for y in "stuvwxyz"]) for x in "abcdefgh"])
        self.check_join(parts)
        facts = [("r" + x, (1,) * 8, (1, 2)) for x in "abcdefgh"]
        self.assertEqual(number_of_plan(tuple(facts), parts, right_plan(parts)), pair(Fraction(1, 256)))


if __name__ == "__main__":
    unittest.main()
