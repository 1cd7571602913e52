"""The two ways to reckon: the bounds hold the exact number between them, closely."""

import random
import unittest
from fractions import Fraction

from rightchance.reckoning import BITS, Bounded, Exact
from rightchance.shares import make_share

CHANCES = ((0, 1), (1, 1), (1, 2), (1, 3), (2, 3), (10 ** 59, 10 ** 59 + 1), (1, 10 ** 60 - 1), (1, 2 ** 150))


class TestReckoning(unittest.TestCase):
    def setUp(self):
        self.exact, self.bounded = Exact(), Bounded()

    def check(self, number, bounds, slack):
        low, high = bounds
        scaled = Fraction(*number) * 2 ** BITS
        self.assertTrue(low <= scaled <= high)
        self.assertTrue(0 <= low and high <= 2 ** BITS)
        self.assertLessEqual(high - low, slack)

    def test_the_number_one(self):
        self.assertEqual(self.exact.start(), (1, 1))
        self.check((1, 1), self.bounded.start(), 0)

    def test_chances(self):
        for chance in CHANCES:
            self.assertEqual(self.exact.of_chance(chance), chance)
            self.check(chance, self.bounded.of_chance(chance), 1)
        for chance in ((0, 1), (1, 1), (1, 2), (3, 4)):
            self.check(chance, self.bounded.of_chance(chance), 0)

    def test_products_and_unions(self):
        source = random.Random(51)
        for _ in range(300):
            chances = [source.choice(CHANCES) for _ in range(source.randint(0, 6))]
            bounds = [self.bounded.of_chance(chance) for chance in chances]
            number, bound = self.exact.start(), self.bounded.start()
            rest = Fraction(1)
            for chance, part in zip(chances, bounds):
                number, bound = self.exact.of_both(number, chance), self.bounded.of_both(bound, part)
                rest = rest * (1 - Fraction(*chance))
                self.check(number, bound, 50)
            expected = make_share((1 - rest).numerator, (1 - rest).denominator)
            self.assertEqual(self.exact.of_any(chances), expected)
            self.check(expected, self.bounded.of_any(bounds), 50)

    def test_wide_bounds_stay_around_the_number(self):
        half = 1 << (BITS - 1)
        wide = (half - 1000, half + 1000)
        low, high = self.bounded.of_both(wide, wide)
        self.assertTrue(low <= (1 << (BITS - 2)) - 999 and high >= (1 << (BITS - 2)) + 1000)
        low, high = self.bounded.of_any([wide, wide])
        self.assertTrue(low <= 3 * (1 << (BITS - 2)) - 999 and high >= 3 * (1 << (BITS - 2)) + 999)
        self.check((1, 4), self.bounded.of_both(wide, wide), 2002)
        self.check((3, 4), self.bounded.of_any([wide, wide]), 2002)


if __name__ == "__main__":
    unittest.main()
