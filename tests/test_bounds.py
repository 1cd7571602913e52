"""The plans of orders ([27]) and the best order ([28])."""

import random
import unittest
from itertools import permutations

from rightchance.bounds import best_order, plan_of_order
from rightchance.plans import is_plan, number_of_plan
from rightchance.shares import any_of, make_share, product_of
from rightchance.writing import write_plan
from tests.oracles import (
    LINKED, all_variables, atom, chance_of_join, closed, full_store, is_hierarchical, is_valid, number_of, pair,
    plan_of, random_join, random_plan, random_store, schema_of,
)

CHAIN = closed(atom("r", "x"), atom("s", "x", "y"), atom("t", "y"))


class TestPlanOfOrder(unittest.TestCase):
    def check(self, join, order, text):
        with self.subTest(join=join, order=order):
            plan = plan_of_order(join, tuple(order))
            self.assertEqual(write_plan(join, plan), text)
            self.assertEqual(plan, plan_of(join, order))
            self.assertIs(type(plan), tuple)

    def test_no_variables(self):
        self.check(closed(atom("r")), "", "r()")
        self.check(closed(atom("r", 1, 2)), "", "r(1, 2)")
        self.check(closed(atom("t"), atom("r", 1)), "", "[t() * r(1)]")
        self.check(closed(atom("t"), atom("s", 2), atom("r", 1)), "", "[t() * s(2) * r(1)]")

    def test_one_variable(self):
        self.check(closed(atom("r", "x")), "x", "!x r(x)")
        self.check(closed(atom("r", "x"), atom("s", "x")), "x", "!x [r(x) * s(x)]")
        self.check(closed(atom("r", "x"), atom("t"), atom("s", "x", 1)), "x", "[!x [r(x) * s(x, 1)] * t()]")
        self.check(closed(atom("t"), atom("r", "x")), "x", "[t() * !x r(x)]")
        self.check(closed(atom("t", 1), atom("r", "x"), atom("q")), "x", "[t(1) * !x r(x) * q()]")

    def test_two_variables(self):
        self.check(CHAIN, "xy", "!y [!x [r(x) * s(x, y)] * t(y)]")
        self.check(CHAIN, "yx", "!x [r(x) * !y [s(x, y) * t(y)]]")
        self.check(closed(atom("r", "x"), atom("t", "y")), "xy", "[!x r(x) * !y t(y)]")
        self.check(closed(atom("r", "x"), atom("t", "y")), "yx", "[!x r(x) * !y t(y)]")
        self.check(closed(atom("s", "x", "y")), "xy", "!y !x s(x, y)")
        self.check(closed(atom("s", "x", "y")), "yx", "!x !y s(x, y)")

    def test_the_new_plan_takes_the_place_of_the_first_one(self):
        join = closed(atom("q", "y"), atom("r", "x"), atom("s", "y"), atom("t", "x"), atom("u"))
        self.check(join, "xy", "[!y [q(y) * s(y)] * !x [r(x) * t(x)] * u()]")
        self.check(join, "yx", "[!y [q(y) * s(y)] * !x [r(x) * t(x)] * u()]")
        join = closed(atom("r", "x"), atom("s", "y"), atom("t", "x", "y"))
        self.check(join, "xy", "!y [!x [r(x) * t(x, y)] * s(y)]")
        self.check(join, "yx", "!x [r(x) * !y [s(y) * t(x, y)]]")

    def test_three_variables(self):
        join = closed(atom("r", "x", "y"), atom("s", "y", "z"), atom("t", "z"))
        texts = {
            "xyz": "!z [!y [!x r(x, y) * s(y, z)] * t(z)]",
            "xzy": "!y [!x r(x, y) * !z [s(y, z) * t(z)]]",
            "yxz": "!z [!x !y [r(x, y) * s(y, z)] * t(z)]",
            "yzx": "!x !z [!y [r(x, y) * s(y, z)] * t(z)]",
            "zxy": "!y [!x r(x, y) * !z [s(y, z) * t(z)]]",
            "zyx": "!x !y [r(x, y) * !z [s(y, z) * t(z)]]",
        }
        for order in permutations("xyz"):
            self.check(join, order, texts["".join(order)])

    def test_the_example_of_the_document(self):
        plan = ("project", "x", ("join", (("scan", 0), ("project", "y", ("join", (("scan", 1), ("scan", 2)))))))
        self.assertEqual(plan_of_order(CHAIN, ("y", "x")), plan)

    def test_all_orders_of_random_joins(self):
        source = random.Random(41)
        for _ in range(150):
            join = random_join(source, 5, "xyz", 3)
            for order in permutations(all_variables(join)):
                plan = plan_of_order(join, order)
                with self.subTest(join=join, order=order):
                    self.assertEqual(plan, plan_of(join, order))
                    self.assertTrue(is_plan(join, plan))
                    self.assertTrue(is_valid(join, plan))

    def test_many_variables(self):
        names = [first + second for first in "abcdefgh" for second in "stuvwxyz"]
        join = closed(*[atom("r" + "abcdefgh"[k], *names[k * 8:k * 8 + 8]) for k in range(8)])
        self.assertEqual(plan_of_order(join, tuple(names)), plan_of(join, names))


def best_by_hand(store, join):
    """The best order and the number of its plan, from all orders in turn."""
    best = None
    for order in permutations(all_variables(join)):
        number = number_of(store, join, plan_of(join, order))
        if best is None or number < best[1]:
            best = (order, number)
    return best[0], pair(best[1])


class TestBestOrder(unittest.TestCase):
    def check(self, store, join, order, number):
        with self.subTest(join=join, store=store):
            self.assertEqual(best_order(store, join), (tuple(order), number))
            self.assertEqual(best_by_hand(store, join), (tuple(order), number))

    def test_no_variables(self):
        self.check((("r", (), (1, 3)),), closed(atom("r")), "", (1, 3))
        self.check((("r", (1,), (1, 3)), ("s", (), (1, 2))), closed(atom("s"), atom("r", 1)), "", (1, 6))
        self.check((), closed(atom("s"), atom("r", 1)), "", (0, 1))

    def test_each_of_two_orders_may_be_the_best(self):
        # With one row of r, projecting y first counts s and t rightly; with one row of t, projecting x first does.
        s = [("s", (a, b), (1, 2)) for a in (1, 2) for b in (1, 2)]
        store = tuple([("r", (1,), (1, 2)), ("s", (1, 1), (1, 2)), ("s", (1, 2), (1, 2)),
                       ("t", (1,), (1, 2)), ("t", (2,), (1, 2))])
        self.check(store, CHAIN, "yx", (7, 32))
        store = tuple([("r", (1,), (1, 2)), ("r", (2,), (1, 2)), ("s", (1, 1), (1, 2)), ("s", (2, 1), (1, 2)),
                       ("t", (1,), (1, 2))])
        self.check(store, CHAIN, "xy", (7, 32))
        store = tuple([("r", (1,), (1, 2)), ("r", (2,), (1, 2))] + s + [("t", (1,), (1, 2)), ("t", (2,), (1, 2))])
        self.assertEqual(best_order(store, CHAIN)[0], ("x", "y"))

    def test_of_orders_with_the_same_number_the_first_one(self):
        join = closed(atom("r", "c"), atom("s", "a"), atom("t", "b"))
        store = (("r", (1,), (1, 2)), ("s", (1,), (1, 2)), ("t", (1,), (1, 2)))
        self.check(store, join, "abc", (1, 8))
        store = (("r", (1,), (1, 2)), ("s", (1, 1), (1, 2)), ("t", (1,), (1, 2)))
        self.check(store, CHAIN, "xy", (1, 8))
        self.check(store[:2], CHAIN, "xy", (0, 1))
        ones = tuple([("r", (k,), (1, 1)) for k in (1, 2)] + [("s", (k, k), (1, 1)) for k in (1, 2)]
                     + [("t", (k,), (1, 1)) for k in (1, 2)])
        self.check(ones, CHAIN, "xy", (1, 1))

    def test_orders_are_compared_word_by_word(self):
        join = closed(atom("r", "ab", "b", "a"))
        self.check((("r", (1, 2, 3), (1, 2)),), join, ("a", "ab", "b"), (1, 2))
        # Only the orders in which ab goes before b are right.
        join = closed(atom("r", "ab", "b"), atom("s", "b"))
        store = (("r", (1, 1), (1, 2)), ("r", (2, 1), (1, 2)), ("s", (1,), (1, 2)))
        self.check(store, join, ("ab", "b"), (3, 8))
        join = closed(atom("r", "a", "ab"), atom("s", "a"))
        store = (("r", (1, 1), (1, 2)), ("r", (1, 2), (1, 2)), ("s", (1,), (1, 2)))
        self.check(store, join, ("ab", "a"), (3, 8))

    def test_the_empty_store(self):
        for join in (CHAIN, closed(atom("r", "f", "e", "d"), atom("s", "c", "b", "a")), closed(atom("r", "b", "a"))):
            self.assertEqual(best_order((), join), (tuple(all_variables(join)), (0, 1)))

    def test_a_difference_that_is_very_small(self):
        # The two numbers differ by about a chance to the sixth power, so that no short bounds tell them apart.
        tiny = (1, 10 ** 59)
        facts = [("r", (k,), tiny) for k in range(13)] + [("s", (k, 0), tiny) for k in range(13)]
        store = tuple(facts + [("t", (0,), tiny), ("u", (), tiny)])
        join = closed(atom("r", "x"), atom("s", "x", "y"), atom("t", "y"), atom("u"))
        number = product_of([any_of([(1, 10 ** 118)] * 13), tiny, tiny])
        self.assertEqual(best_order(store, join), (("x", "y"), number))
        turned = closed(atom("r", "y"), atom("s", "y", "x"), atom("t", "x"), atom("u"))
        self.assertEqual(best_order(store, turned), (("y", "x"), number))

    def test_random_joins(self):
        source = random.Random(42)
        first = 0
        for _ in range(250):
            join = source.choice((random_join(source, 4, "xyz", 2, (1, 2)), source.choice(LINKED)))
            store = full_store(source, schema_of(join), 40)
            found = best_order(store, join)
            with self.subTest(join=join, store=store):
                self.assertEqual(found, best_by_hand(store, join))
            first += found[0] == tuple(all_variables(join))
        self.assertGreater(first, 50)
        self.assertLess(first, 230)

    def test_no_valid_plan_has_a_smaller_number(self):
        source = random.Random(43)
        for _ in range(200):
            join = source.choice((random_join(source, 4, "xyz", 2, (1, 2)), source.choice(LINKED)))
            store = full_store(source, schema_of(join), 40)
            n, d = best_order(store, join)[1]
            m, e = number_of_plan(store, join, random_plan(source, join))
            self.assertLessEqual(n * e, m * d)

    def test_hierarchical_joins_have_their_chance(self):
        source = random.Random(44)
        for _ in range(200):
            join = random_join(source, 3, values=(1, 2))
            if is_hierarchical(join):
                store = random_store(source, schema_of(join), 6, (1, 2))
                with self.subTest(join=join, store=store):
                    self.assertEqual(best_order(store, join)[1], pair(chance_of_join(store, join)))


class TestSixVariables(unittest.TestCase):
    """Joins with as many variables as there may be, in good time."""

    def check(self, store, join):
        order, number = best_order(store, join)
        self.assertEqual(sorted(order), all_variables(join))
        self.assertEqual(number, number_of_plan(store, join, plan_of_order(join, order)))
        return order, number

    def test_independent_atoms(self):
        join = closed(*[atom("r" + x, x) for x in "fedcba"])
        facts = [("r" + x, (k,), (1, 3)) for x in "abcdef" for k in range(30)]
        number = product_of([any_of([(1, 3)] * 30)] * 6)
        self.assertEqual(self.check(tuple(facts), join), (tuple("abcdef"), number))

    def test_one_atom_with_all_variables(self):
        facts = [("r", (k, -k, k * k, k % 3, k % 7, 1), (1, k + 2)) for k in range(200)]
        join = closed(atom("r", *"fedcba"))
        self.assertEqual(self.check(tuple(sorted(facts)), join), (tuple("abcdef"), make_share(200, 201)))

    def test_several_atoms_with_all_variables(self):
        d = 10 ** 59
        facts = [(name, (k, -k, k * k, k % 3, k % 7, 1), (d - 2 * k - 1, d)) for name in "rs" for k in range(0, 500, 5)]
        facts = [fact for fact in facts if fact[2] == make_share(*fact[2])]
        join = closed(atom("r", *"fedcba"), atom("s", *"fedcba"))
        self.assertEqual(self.check(tuple(sorted(facts)), join)[0], tuple("abcdef"))

    def test_a_chain(self):
        source = random.Random(45)
        rows = {(name, source.randrange(8), source.randrange(8)) for name in "rstuv" for _ in range(65)}
        facts = [(name, (x, y), make_share(source.randint(1, 98), 99)) for name, x, y in sorted(rows)][:200]
        join = closed(*[atom("rstuv"[k], "abcdef"[k], "abcdef"[k + 1]) for k in range(5)])
        self.check(tuple(facts), join)

    def test_all_variables_apart_and_together(self):
        source = random.Random(46)
        facts = [("r" + x, (k,), make_share(source.randint(1, 98), 99)) for x in "abcdef" for k in range(10)]
        rows = {tuple([source.randrange(10) for _ in "abcdef"]) for _ in range(100)}
        facts.extend([("s", row, (1, 2)) for row in rows])
        join = closed(*[atom("r" + x, x) for x in "abcdef"], atom("s", *"abcdef"))
        self.check(tuple(sorted(facts)), join)

    def test_a_circle(self):
        source = random.Random(47)
        rows = {(name, source.randrange(4), source.randrange(4)) for name in "rstuvw" for _ in range(12)}
        facts = [(name, (x, y), make_share(source.randint(1, 98), 99)) for name, x, y in sorted(rows)]
        join = closed(*[atom("rstuvw"[k], "abcdef"[k], "bcdefa"[k]) for k in range(6)])
        self.check(tuple(facts), join)


if __name__ == "__main__":
    unittest.main()
