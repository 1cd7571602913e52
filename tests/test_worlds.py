"""Worlds, their numbers and order ([13]), and their chances ([14])."""

import unittest
from fractions import Fraction
from itertools import combinations

from rightchance.shares import make_share, plus
from rightchance.worlds import chance_of_world, count_worlds, number_of, world_at

HUGE = 10 ** 150
STORE = (("r", (-1,), (1, 2)), ("r", ("a",), (0, 1)), ("rain", (), (1, 1)), ("s", (1, 2), (2, 7)))
PLACES = tuple([(name, row) for name, row, _ in STORE])


def worlds_of(places):
    """All worlds, in no order that matters."""
    return [world for size in range(len(places) + 1) for world in combinations(places, size)]


def is_greater(places, world, other):
    """Tell if the first world has the greater number, as [13] says it."""
    for place in places:
        if (place in world) != (place in other):
            return place in world
    return False


def long_store(count):
    return tuple([("r", (k,), make_share(k + 1, 10 ** 59 + 1)) for k in range(count)])


class TestCountWorlds(unittest.TestCase):
    def test_the_empty_store(self):
        self.assertEqual(count_worlds(()), 1)

    def test_the_chances_zero_and_one_count(self):
        for size in range(5):
            self.assertEqual(count_worlds(STORE[:size]), 2 ** size)
        self.assertEqual(count_worlds((("r", (1,), (0, 1)),)), 2)
        self.assertEqual(count_worlds((("r", (1,), (1, 1)),)), 2)

    def test_many_facts(self):
        self.assertEqual(count_worlds(long_store(200)), 2 ** 200)


class TestWorldAt(unittest.TestCase):
    def test_the_order_of_the_worlds(self):
        worlds = [world_at(STORE, n) for n in range(16)]
        self.assertEqual(len(worlds), len(worlds_of(PLACES)))
        self.assertEqual(set(worlds), set(worlds_of(PLACES)))
        for low, high in combinations(range(16), 2):
            self.assertTrue(is_greater(PLACES, worlds[high], worlds[low]), (low, high))

    def test_the_worlds_of_three_facts(self):
        p, q, r = PLACES[:3]
        worlds = [(), (r,), (q,), (q, r), (p,), (p, r), (p, q), (p, q, r)]
        self.assertEqual([world_at(STORE[:3], n) for n in range(8)], worlds)

    def test_the_world_without_places_and_the_one_with_all(self):
        for size in range(5):
            self.assertEqual(world_at(STORE[:size], 0), ())
            self.assertEqual(world_at(STORE[:size], 2 ** size - 1), PLACES[:size])

    def test_the_empty_store(self):
        self.assertEqual(world_at((), 0), ())
        for n in (-HUGE, -1, 1, 2, HUGE):
            self.assertIsNone(world_at((), n))

    def test_numbers_of_no_world(self):
        for size in range(5):
            for n in (-HUGE, -16, -2, -1, 2 ** size, 2 ** size + 1, HUGE):
                self.assertIsNone(world_at(STORE[:size], n))

    def test_many_facts(self):
        store = long_store(200)
        self.assertEqual(world_at(store, 2 ** 199), (("r", (0,)),))
        self.assertEqual(world_at(store, 1), (("r", (199,)),))
        self.assertEqual(len(world_at(store, 2 ** 200 - 1)), 200)
        self.assertIsNone(world_at(store, 2 ** 200))


class TestNumberOf(unittest.TestCase):
    def test_the_way_back(self):
        for size in range(5):
            store = STORE[:size]
            for n in range(2 ** size):
                self.assertEqual(number_of(store, world_at(store, n)), n)

    def test_single_places(self):
        for index, place in enumerate(PLACES):
            self.assertEqual(number_of(STORE, (place,)), 2 ** (3 - index))

    def test_the_empty_store(self):
        self.assertEqual(number_of((), ()), 0)

    def test_many_facts(self):
        store = long_store(200)
        for n in (0, 1, 2 ** 100 + 7, 3 ** 126, 2 ** 200 - 1):
            self.assertEqual(number_of(store, world_at(store, n)), n)


class TestChanceOfWorld(unittest.TestCase):
    def test_the_empty_store(self):
        self.assertEqual(chance_of_world((), ()), (1, 1))

    def test_single_facts(self):
        for chance, rest in (((1, 3), (2, 3)), ((0, 1), (1, 1)), ((1, 1), (0, 1))):
            store = (("r", (1,), chance),)
            self.assertEqual(chance_of_world(store, (("r", (1,)),)), chance)
            self.assertEqual(chance_of_world(store, ()), rest)

    def test_products(self):
        store = (("r", (1,), (1, 2)), ("r", (2,), (1, 3)), ("s", (1,), (3, 5)))
        first, second, third = [(name, row) for name, row, _ in store]
        self.assertEqual(chance_of_world(store, ()), (2, 15))
        self.assertEqual(chance_of_world(store, (first, second, third)), (1, 10))
        self.assertEqual(chance_of_world(store, (second,)), (1, 15))
        self.assertEqual(chance_of_world(store, (first, third)), (1, 5))

    def test_the_chances_zero_and_one(self):
        for world in worlds_of(PLACES):
            possible = PLACES[1] not in world and PLACES[2] in world
            self.assertEqual(chance_of_world(STORE, world) != (0, 1), possible)
        self.assertEqual(chance_of_world(STORE, (PLACES[2],)), (5, 14))
        self.assertEqual(chance_of_world(STORE, (PLACES[0], PLACES[2], PLACES[3])), (1, 7))

    def test_the_sum_over_all_worlds(self):
        for size in range(5):
            total = (0, 1)
            for n in range(2 ** size):
                total = plus(total, chance_of_world(STORE[:size], world_at(STORE[:size], n)))
            self.assertEqual(total, (1, 1))

    def test_many_facts_with_long_chances(self):
        store = long_store(200)
        world = tuple([(name, row) for name, row, _ in store[::2]])
        expected = Fraction(1)
        for index, (_, _, (n, d)) in enumerate(store):
            expected = expected * (Fraction(n, d) if index % 2 == 0 else 1 - Fraction(n, d))
        self.assertEqual(chance_of_world(store, world), (expected.numerator, expected.denominator))


if __name__ == "__main__":
    unittest.main()
