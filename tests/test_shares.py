"""Shares and chances ([4])."""

import unittest
from fractions import Fraction

from rightchance.errors import NoShare
from rightchance.shares import (
    any_of,
    compare_shares,
    is_chance,
    is_share,
    make_share,
    plus,
    product_of,
    rest_of,
    times,
)

HUGE = 10 ** 130 + 7
CHANCES = [(0, 1), (1, 1), (1, 2), (1, 3), (2, 3), (3, 4), (5, 6), (7, 12), (4, 9)]
SHARES = CHANCES + [(2, 1), (3, 2), (7, 4), (100, 9), (10 ** 120 + 1, 10 ** 119), (1, HUGE)]


def pair_of(fraction):
    return (fraction.numerator, fraction.denominator)


def fraction_of(share):
    return Fraction(share[0], share[1])


class TestMakeShare(unittest.TestCase):
    def test_lowest_terms_are_kept(self):
        self.assertEqual(make_share(3, 4), (3, 4))
        self.assertEqual(make_share(1, 1), (1, 1))
        self.assertEqual(make_share(7, 2), (7, 2))

    def test_common_divisors_are_taken_out(self):
        self.assertEqual(make_share(6, 8), (3, 4))
        self.assertEqual(make_share(8, 8), (1, 1))
        self.assertEqual(make_share(12, 4), (3, 1))
        self.assertEqual(make_share(4, 12), (1, 3))

    def test_both_signs_negative_make_a_share(self):
        self.assertEqual(make_share(-6, -8), (3, 4))
        self.assertEqual(make_share(-1, -1), (1, 1))

    def test_zero_is_always_the_same_pair(self):
        self.assertEqual(make_share(0, 1), (0, 1))
        self.assertEqual(make_share(0, 7), (0, 1))
        self.assertEqual(make_share(0, -7), (0, 1))

    def test_a_fraction_below_zero_is_no_share(self):
        for n, d in ((-1, 2), (1, -2), (-6, 8), (6, -8), (-HUGE, 1), (1, -HUGE)):
            with self.subTest(n=n, d=d), self.assertRaises(NoShare):
                make_share(n, d)

    def test_a_denominator_of_zero_is_no_share(self):
        for n in (0, 1, -1, 6, HUGE, -HUGE):
            with self.subTest(n=n), self.assertRaises(NoShare):
                make_share(n, 0)

    def test_numbers_of_more_than_a_hundred_digits(self):
        self.assertEqual(make_share(6 * HUGE, 8 * HUGE), (3, 4))
        self.assertEqual(make_share(HUGE, HUGE + 1), (HUGE, HUGE + 1))
        self.assertEqual(make_share(-2 * HUGE, -2), (HUGE, 1))
        self.assertEqual(make_share(10 ** 150, 10 ** 149), (10, 1))

    def test_every_small_fraction(self):
        for n in range(-12, 13):
            for d in range(-12, 13):
                with self.subTest(n=n, d=d):
                    if d == 0 or Fraction(n, d) < 0:
                        self.assertRaises(NoShare, make_share, n, d)
                    else:
                        self.assertEqual(make_share(n, d), pair_of(Fraction(n, d)))

    def test_the_result_is_a_tuple_of_plain_integers(self):
        share = make_share(6, 8)
        self.assertEqual([type(share), type(share[0]), type(share[1])], [tuple, int, int])


class TestIsShareAndIsChance(unittest.TestCase):
    def check(self, pair, share, chance):
        with self.subTest(pair=pair):
            self.assertIs(is_share(pair), share)
            self.assertIs(is_chance(pair), chance)

    def test_zero_and_one(self):
        self.check((0, 1), True, True)
        self.check((1, 1), True, True)

    def test_between_zero_and_one(self):
        self.check((1, 2), True, True)
        self.check((HUGE, HUGE + 1), True, True)

    def test_above_one_is_a_share_but_no_chance(self):
        self.check((2, 1), True, False)
        self.check((3, 2), True, False)
        self.check((HUGE + 1, HUGE), True, False)

    def test_a_common_divisor(self):
        for pair in ((2, 4), (2, 2), (4, 2), (0, 2), (0, HUGE), (3 * HUGE, 3 * HUGE + 3), (2 * HUGE, 4 * HUGE)):
            self.check(pair, False, False)

    def test_negative_numbers(self):
        for pair in ((-1, 2), (1, -2), (-1, -2), (0, -1), (-1, 1), (-HUGE, 1), (-1, 1 - HUGE)):
            self.check(pair, False, False)

    def test_a_denominator_of_zero(self):
        for pair in ((0, 0), (1, 0), (-1, 0), (HUGE, 0)):
            self.check(pair, False, False)

    def test_every_small_pair(self):
        for n in range(-6, 13):
            for d in range(-6, 13):
                share = n >= 0 and d >= 1 and pair_of(Fraction(n, d)) == (n, d)
                self.check((n, d), share, share and Fraction(n, d) <= 1)


class TestArithmetic(unittest.TestCase):
    def test_plus(self):
        self.assertEqual(plus((1, 2), (1, 3)), (5, 6))
        self.assertEqual(plus((0, 1), (3, 4)), (3, 4))
        self.assertEqual(plus((3, 4), (0, 1)), (3, 4))
        self.assertEqual(plus((1, 1), (1, 1)), (2, 1))
        self.assertEqual(plus((1, 6), (1, 10)), (4, 15))
        self.assertEqual(plus((1, 4), (1, 4)), (1, 2))

    def test_times(self):
        self.assertEqual(times((1, 2), (1, 3)), (1, 6))
        self.assertEqual(times((0, 1), (3, 4)), (0, 1))
        self.assertEqual(times((3, 4), (0, 1)), (0, 1))
        self.assertEqual(times((1, 1), (3, 4)), (3, 4))
        self.assertEqual(times((2, 3), (3, 4)), (1, 2))
        self.assertEqual(times((5, 6), (9, 10)), (3, 4))
        self.assertEqual(times((4, 1), (1, 2)), (2, 1))

    def test_compare_shares(self):
        self.assertEqual(compare_shares((1, 3), (1, 2)), -1)
        self.assertEqual(compare_shares((1, 2), (1, 3)), 1)
        self.assertEqual(compare_shares((1, 2), (1, 2)), 0)
        self.assertEqual(compare_shares((0, 1), (1, HUGE)), -1)
        self.assertEqual(compare_shares((1, 1), (1, 1)), 0)
        self.assertEqual(compare_shares((5, 6), (3, 4)), 1)
        self.assertEqual(compare_shares((HUGE, HUGE + 1), (HUGE + 1, HUGE + 2)), -1)

    def test_all_pairs_of_shares(self):
        for share in SHARES:
            for other in SHARES:
                with self.subTest(share=share, other=other):
                    a, b = fraction_of(share), fraction_of(other)
                    self.assertEqual(plus(share, other), pair_of(a + b))
                    self.assertEqual(times(share, other), pair_of(a * b))
                    self.assertEqual(compare_shares(share, other), (a > b) - (a < b))

    def test_a_comparison_is_a_plain_integer(self):
        for other in ((1, 3), (1, 2), (2, 3)):
            self.assertIs(type(compare_shares((1, 2), other)), int)

    def test_rest_of(self):
        self.assertEqual(rest_of((0, 1)), (1, 1))
        self.assertEqual(rest_of((1, 1)), (0, 1))
        self.assertEqual(rest_of((1, 4)), (3, 4))
        self.assertEqual(rest_of((HUGE, HUGE + 1)), (1, HUGE + 1))
        for chance in CHANCES:
            self.assertEqual(rest_of(chance), pair_of(1 - fraction_of(chance)))


class TestLists(unittest.TestCase):
    def test_product_of_the_empty_list(self):
        self.assertEqual(product_of([]), (1, 1))

    def test_product_of_one_share(self):
        for share in SHARES:
            self.assertEqual(product_of([share]), share)

    def test_product_of_several_shares(self):
        self.assertEqual(product_of([(1, 2), (2, 3), (3, 4)]), (1, 4))
        self.assertEqual(product_of([(3, 1), (5, 2)]), (15, 2))
        self.assertEqual(product_of([(1, 2), (1, 1), (1, 2)]), (1, 4))
        self.assertEqual(product_of([(1, 2), (0, 1), (7, 3)]), (0, 1))
        self.assertEqual(product_of([(1, 1), (1, 1)]), (1, 1))

    def test_any_of_the_empty_list(self):
        self.assertEqual(any_of([]), (0, 1))

    def test_any_of_one_chance(self):
        for chance in CHANCES:
            self.assertEqual(any_of([chance]), chance)

    def test_any_of_several_chances(self):
        self.assertEqual(any_of([(1, 2), (1, 2)]), (3, 4))
        self.assertEqual(any_of([(1, 2), (1, 3)]), (2, 3))
        self.assertEqual(any_of([(1, 2), (0, 1), (1, 3), (1, 4)]), (3, 4))
        self.assertEqual(any_of([(1, 2), (1, 1), (1, 3)]), (1, 1))
        self.assertEqual(any_of([(0, 1), (0, 1)]), (0, 1))

    def test_lists_of_many_long_chances(self):
        chances = [make_share(10 ** 59 + k, 10 ** 60 - 1) for k in range(200)]
        product, missing = Fraction(1), Fraction(1)
        for chance in chances:
            product *= fraction_of(chance)
            missing *= 1 - fraction_of(chance)
        self.assertEqual(product_of(chances), pair_of(product))
        self.assertEqual(any_of(chances), pair_of(1 - missing))

    def test_the_lists_that_were_passed_are_unchanged(self):
        shares = [(1, 2), (0, 1), (1, 1), (1, 2)]
        product_of(shares)
        any_of(shares)
        self.assertEqual(shares, [(1, 2), (0, 1), (1, 1), (1, 2)])


if __name__ == "__main__":
    unittest.main()
