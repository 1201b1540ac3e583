"""Points 0.4, 0.5, 1.1 and 1.2."""

import math
import unittest
from fractions import Fraction
from itertools import product

from tests.helper import (
    Case, LARGE, NOT_ARM_SIZES, NOT_RATIOS, NOT_SMALL, NOT_WEIGHTS, NOT_WHOLE, SMALL, SMALL_ENDS,
    fraction, ratio,
)
from wherelaid.errors import BadRatio, BadSize
from wherelaid.ratios import (
    ONE, ZERO, check_size, compare, floor_of, greatest_of, is_arm_size, is_coordinate, is_factor,
    is_ratio, is_weight, is_whole, least_of, make_ratio, minus, negative, over, plus, ratio_text,
    sum_of, times,
)

SIZES = [ratio(size) for size in (
    0, 1, -1, 2, -3, "1/2", "-1/2", "2/3", "3/2", "-7/5", "22/7", SMALL, f"1/{SMALL}",
    f"{10 ** 40 + 1}/{10 ** 39}", f"-{10 ** 150}", f"-1/{10 ** 150}",
)]


class Numbers(Case):

    def test_constants(self):
        self.assertEqual((ZERO, ONE), ((0, 1), (1, 1)))
        self.tuples((ZERO, ONE))

    def test_whole_numbers(self):
        for number in (0, 1, -1, 10 ** 200, -10 ** 200):
            self.assertIs(is_whole(number), True)
        for thing in NOT_WHOLE:
            self.assertIs(is_whole(thing), False, thing)
            self.assertIs(is_whole(thing, 0, 5), False, thing)

    def test_whole_numbers_in_bounds(self):
        for number in range(-3, 4):
            self.assertIs(is_whole(number, -1), number >= -1)
            self.assertIs(is_whole(number, None, 2), number <= 2)
            self.assertIs(is_whole(number, high=0), number <= 0)
            self.assertIs(is_whole(number, -1, 2), -1 <= number <= 2)
            self.assertIs(is_whole(number, low=0, high=0), number == 0)
            self.assertIs(is_whole(number, 2, 1), False)

    def test_ratios(self):
        for one in SIZES:
            self.assertIs(is_ratio(one), True, one)
        for thing in NOT_RATIOS:
            self.assertIs(is_ratio(thing), False, thing)
        for top, bottom in product(range(-6, 7), repeat=2):
            told = bottom > 0 and math.gcd(top, bottom) == 1
            self.assertIs(is_ratio((top, bottom)), told)
            self.assertIs(is_ratio([top, bottom]), False)


class Bounds(Case):

    def test_coordinates(self):
        for one in SMALL_ENDS + (ZERO, ONE):
            self.assertIs(is_coordinate(one), True, one)
        for thing in NOT_RATIOS + NOT_SMALL:
            self.assertIs(is_coordinate(thing), False, thing)

    def test_arm_sizes(self):
        for one in SMALL_ENDS:
            self.assertIs(is_arm_size(one), one[0] > 0, one)
        for thing in NOT_ARM_SIZES:
            self.assertIs(is_arm_size(thing), False, thing)

    def test_weights(self):
        for one in SMALL_ENDS:
            self.assertIs(is_weight(one), one[0] > 0, one)
        self.assertIs(is_weight(ZERO), True)
        for thing in NOT_WEIGHTS:
            self.assertIs(is_weight(thing), False, thing)

    def test_factors(self):
        for one in (ONE, (LARGE, 1), (1, LARGE), (LARGE, LARGE - 1), (LARGE - 1, LARGE)):
            self.assertIs(is_factor(one), True)
        for one in ((LARGE + 1, 1), (1, LARGE + 1), (LARGE + 1, LARGE), (LARGE, LARGE + 1)):
            self.assertIs(is_factor(one), False)
        for thing in NOT_RATIOS + (ZERO, (-1, 1), (-1, LARGE)):
            self.assertIs(is_factor(thing), False, thing)

    def test_check_size(self):
        self.assertEqual(check_size((1, SMALL)), (1, SMALL))
        for thing in NOT_ARM_SIZES:
            self.refuses(BadSize, (thing,), check_size, thing)


class Making(Case):

    def test_lowest_terms(self):
        for top, bottom in product(range(-12, 13), repeat=2):
            if bottom != 0:
                made = make_ratio(top, bottom)
                self.assertEqual(made, ratio(Fraction(top, bottom)))
                self.tuples(made)

    def test_without_a_bottom(self):
        self.assertEqual(make_ratio(-7), (-7, 1))
        self.assertEqual(make_ratio(0), (0, 1))
        self.assertEqual(make_ratio(top=4, bottom=-6), (-2, 3))

    def test_wrong_numbers(self):
        for thing in NOT_WHOLE:
            self.refuses(BadRatio, ("top",), make_ratio, thing)
            self.refuses(BadRatio, ("top",), make_ratio, thing, 2)
            self.refuses(BadRatio, ("bottom",), make_ratio, 1, thing)
        self.refuses(BadRatio, ("bottom",), make_ratio, 1, 0)
        self.refuses(BadRatio, ("bottom",), make_ratio, 0, 0)

    def test_two_wrong_numbers(self):
        self.refuses(BadRatio, ("top",), make_ratio, True, 0)
        self.refuses(BadRatio, ("top",), make_ratio, (1, 1), False)


class Reckoning(Case):

    def test_two_ratios(self):
        for one, two in product(SIZES, repeat=2):
            left, right = fraction(one), fraction(two)
            self.assertEqual(plus(one, two), ratio(left + right))
            self.assertEqual(minus(one, two), ratio(left - right))
            self.assertEqual(times(one, two), ratio(left * right))
            self.assertEqual(compare(one, two), (left > right) - (left < right))
            self.assertIs(type(compare(one, two)), int)
            if right != 0:
                self.assertEqual(over(one, two), ratio(left / right))
                self.tuples(over(one, two))
            self.tuples((plus(one, two), minus(one, two), times(one, two)))

    def test_over_zero(self):
        for one in SIZES:
            self.refuses(BadRatio, ("zero",), over, one, ZERO)

    def test_one_ratio(self):
        for one in SIZES:
            self.assertEqual(negative(one), ratio(-fraction(one)))
            self.assertEqual(floor_of(one), math.floor(fraction(one)))
        self.assertEqual([floor_of((top, 2)) for top in (-3, -1, 1, 3)], [-2, -1, 0, 1])
        self.assertEqual([floor_of((top, 1)) for top in (-2, 0, 2)], [-2, 0, 2])

    def test_many_ratios(self):
        for many in range(len(SIZES) + 1):
            for rows in (SIZES[:many], tuple(SIZES[:many]), tuple(reversed(SIZES[:many]))):
                sizes = [fraction(one) for one in rows]
                self.assertEqual(sum_of(rows), ratio(sum(sizes)))
                if rows:
                    self.assertEqual(least_of(rows), ratio(min(sizes)))
                    self.assertEqual(greatest_of(rows), ratio(max(sizes)))
        self.assertEqual((sum_of(()), sum_of([])), (ZERO, ZERO))

    def test_texts(self):
        for size in ("3", "-3", "0", "1/2", "-1/2", "22/7", str(10 ** 150), f"-1/{10 ** 150}"):
            self.assertEqual(ratio_text(ratio(size)), size)


if __name__ == "__main__":
    unittest.main()
