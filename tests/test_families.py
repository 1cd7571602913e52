"""Families of lots, how they are put together, and the formulas and tallies that chances rest on."""

import random
import unittest
from fractions import Fraction

from rightchance.families import facts_in, linked_places, size_of, smallest_of
from rightchance.formulas import NO, YES, Formulas
from rightchance.ordering import bottom_up
from rightchance.splitting import factors_of, step_of
from rightchance.tallies import Tallies


def random_lots(source, facts, most):
    return [sum([1 << k for k in source.sample(range(facts), source.randint(1, 4))])
            for _ in range(source.randint(1, most))]


class TestFamilies(unittest.TestCase):
    def test_the_facts_of_a_lot(self):
        for facts in ([], [0], [3, 5], [0, 1, 199], list(range(200))):
            lot = sum([1 << k for k in facts])
            self.assertEqual(facts_in(lot), facts)
            self.assertEqual(size_of(lot), len(facts))

    def test_the_smallest_lots(self):
        self.assertEqual(smallest_of([]), ())
        self.assertEqual(smallest_of([0, 5]), (0,))
        self.assertEqual(smallest_of([6, 3, 6, 7]), (3, 6))
        source = random.Random(121)
        for _ in range(300):
            lots = random_lots(source, 7, 40)
            expected = {lot for lot in lots if not any(other & lot == other != lot for other in lots)}
            self.assertEqual(smallest_of(lots), tuple(sorted(expected)))

    def test_linked_groups(self):
        self.assertEqual(linked_places([]), [])
        self.assertEqual(linked_places([0, 1, 0, 1]), [[0], [1, 3], [2]])
        self.assertEqual(linked_places([1, 2, 4, 6, 8, 3]), [[0, 1, 2, 3, 5], [4]])
        source = random.Random(122)
        for _ in range(300):
            bits = [source.getrandbits(8) & source.getrandbits(8) & source.getrandbits(8) for _ in range(6)]
            groups = linked_places(bits)
            self.assertEqual(sorted([k for group in groups for k in group]), list(range(6)))
            self.assertEqual(groups, sorted([sorted(group) for group in groups]))
            for group in groups:
                for k in group:
                    outside = [j for j in range(6) if j not in group and bits[j] & bits[k]]
                    self.assertEqual(outside, [])
                    inside = [j for j in group if j != k and bits[j] & bits[k]]
                    self.assertTrue(inside or len(group) == 1)

    def test_factors(self):
        self.assertEqual(sorted(factors_of((0b0101, 0b0110, 0b1001, 0b1010))), [(1, 2), (4, 8)])
        self.assertEqual(factors_of((0b0101, 0b1010)), [(0b0101, 0b1010)])
        self.assertEqual(sorted(factors_of((0b111,))), [(1,), (2,), (4,)])

    def test_the_families_of_a_step_have_fewer_facts(self):
        source = random.Random(123)
        for _ in range(200):
            root = smallest_of(random_lots(source, 9, 12))
            for lots in bottom_up(root, lambda family: step_of(family)[2]):
                facts = len({k for lot in lots for k in facts_in(lot)})
                for inner in step_of(lots)[2]:
                    self.assertLess(len({k for lot in inner for k in facts_in(lot)}), facts)


class TestBottomUp(unittest.TestCase):
    def test_what_a_thing_is_made_of_comes_before_it(self):
        inner = {"a": "bcd", "b": "de", "c": "b", "d": "", "e": "d"}
        order = bottom_up("a", lambda thing: list(inner[thing]))
        self.assertEqual(sorted(order), list("abcde"))
        for thing in order:
            for part in inner[thing]:
                self.assertLess(order.index(part), order.index(thing))

    def test_deep_things(self):
        self.assertEqual(bottom_up(5000, lambda k: [k - 1] if k else []), list(range(5001)))


class TestFormulas(unittest.TestCase):
    def setUp(self):
        self.pool = Formulas()
        self.facts = [self.pool.of_fact(k) for k in range(4)]

    def test_plain_cases(self):
        a, b, c, _ = self.facts
        merged = self.pool.merged
        self.assertEqual((merged("any", []), merged("both", [])), (NO, YES))
        self.assertEqual((merged("any", [a]), merged("both", [a, a])), (a, a))
        self.assertEqual((merged("any", [a, YES]), merged("any", [a, NO])), (YES, a))
        self.assertEqual((merged("both", [a, YES]), merged("both", [a, NO])), (a, NO))
        self.assertEqual(merged("any", [b, a]), merged("any", [a, b, a]))
        self.assertEqual(merged("any", [a, merged("any", [b, c])]), merged("any", [a, b, c]))
        self.assertEqual(merged("any", [a, merged("both", [a, b])]), a)
        self.assertEqual(merged("both", [a, merged("any", [a, b]), c]), merged("both", [a, c]))

    def test_facts_that_are_there_or_missing(self):
        a, b, c, _ = self.facts
        formula = self.pool.merged("any", [self.pool.merged("both", [a, b]), c])
        self.assertEqual(self.pool.settled(formula, 1, 0), self.pool.merged("any", [b, c]))
        self.assertEqual(self.pool.settled(formula, 0, 1), c)
        self.assertEqual(self.pool.settled(formula, 3, 4), YES)
        self.assertEqual(self.pool.settled(formula, 2, 5), NO)
        self.assertEqual(self.pool.settled(formula, 8, 0), formula)

    def test_a_part_that_is_replaced(self):
        a, b, c, d = self.facts
        part = self.pool.merged("any", [a, b])
        formula = self.pool.merged("both", [part, c])
        self.assertEqual(self.pool.replaced(formula, part, YES), c)
        self.assertEqual(self.pool.replaced(formula, part, NO), NO)
        self.assertEqual(self.pool.replaced(formula, c, d), self.pool.merged("both", [part, d]))
        self.assertEqual(self.pool.replaced(formula, d, YES), formula)
        self.assertEqual(self.pool.replaced(part, part, c), c)

    def test_parts_that_stand_apart(self):
        a, b, c, d = self.facts
        part = self.pool.merged("any", [a, b])
        first, second = [self.pool.merged("both", [part, other]) for other in (c, d)]
        self.assertEqual(self.pool.parts_apart([first, second]), [part])
        self.assertEqual(self.pool.parts_apart([first]), [])
        self.assertEqual(self.pool.parts_apart([first, second, a]), [])
        self.assertEqual(self.pool.parts_apart([first, first]), [first])
        self.assertEqual(self.pool.parts_apart([a, a, b]), [])

    def test_random_formulas(self):
        source = random.Random(124)
        chances = ((1, 2), (1, 3), (3, 4), (1, 1), (0, 1), (2, 7))
        for _ in range(200):
            pool = Formulas()
            meanings = {NO: [], YES: list(range(64))}
            for k in range(6):
                meanings[pool.of_fact(k)] = [world for world in range(64) if world >> k & 1]
            for _ in range(8):
                kind = source.choice(("any", "both"))
                parts = source.sample(sorted(meanings), source.randint(2, 3))
                held = [sum(world in meanings[part] for part in parts) for world in range(64)]
                needed = 1 if kind == "any" else len(parts)
                meanings[pool.merged(kind, parts)] = [world for world in range(64) if held[world] >= needed]
            store = tuple([("r", (k,), source.choice(chances)) for k in range(6)])
            chosen = [source.choice(sorted(meanings)) for _ in range(3)]
            shares = [Fraction(0)] * 4
            for world in range(64):
                chance = Fraction(1)
                for k, (_, _, (n, d)) in enumerate(store):
                    chance *= Fraction(n, d) if world >> k & 1 else 1 - Fraction(n, d)
                shares[sum(world in meanings[formula] for formula in chosen)] += chance
            found = Tallies(pool, store).counts_of_formulas(chosen)
            self.assertEqual([Fraction(*share) for share in found], shares)


if __name__ == "__main__":
    unittest.main()
