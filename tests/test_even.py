"""Points 3.12 and 3.13: even scales and errors of the showing."""

import unittest
from fractions import Fraction

from tests.helper import (
    Case, LARGE, NOT_RATIOS, borne, corners, fraction, place, plain, plains, ratio, scale, some_loads,
)
from wherelaid.errors import BadError, BadSize
from wherelaid.even import (
    Uneven, best_factor, error_range, is_even, outside_error, uneven_of,
)
from wherelaid.leverways import cut_lever, lengthened, set_between
from wherelaid.pushes import lean_pushes, showing_of
from wherelaid.scales import Plain, plain_of

NOT_FACTORS = NOT_RATIOS + (
    (0, 1), (-1, 1), (-1, 2), (LARGE + 1, 1), (1, LARGE + 1), (LARGE + 1, LARGE), (LARGE, LARGE + 1))


def even():
    return Plain(corners(), [ratio("2/3")] * 4)


def with_factors(*sizes):
    return Plain([place(k, k * k) for k in range(len(sizes))], [ratio(size) for size in sizes])


def errors_of(one, factor):
    """The errors of the showing for some loads and lean pushes."""
    for loads in some_loads(one.places):
        total = borne(loads)[0]
        if total:
            for pushes in lean_pushes(one.places, loads):
                yield fraction(showing_of(one, pushes)) / (fraction(factor) * total) - 1


class Even(Case):

    def test_samples(self):
        self.assertIs(is_even(even()), True)
        self.assertIsNone(uneven_of(even()))
        for sizes, other in (((1, 2), 1), ((1, 1, 2), 2), ((1, 2, 2), 1), ((3, 3, 3, 3, 3, "3/2"), 5),
                             ((2, 1, 2, 1), 1)):
            one = with_factors(*sizes)
            self.assertIs(is_even(one), False)
            self.assertEqual(uneven_of(one), Uneven(0, other))
            self.assertIs(type(uneven_of(one)), Uneven)

    def test_all_samples(self):
        for _, one in plains():
            unlike = [leg for leg in range(len(one)) if one.factors[leg] != one.factors[0]]
            self.assertIs(is_even(one), not unlike)
            self.assertEqual(uneven_of(one), Uneven(0, unlike[0]) if unlike else None)

    def test_even_scales_show_one_quotient(self):
        for name, one in plains():
            if name.endswith(" 0"):
                self.assertEqual(set(errors_of(one, one.factors[0])), {0})

    def test_the_same_with_other_levers(self):
        one = scale()
        for other in (plain_of(one), lengthened(one, 0, ratio("3/7")), cut_lever(one, 2),
                      set_between(one, 0, ratio(5), ratio("2/9"))):
            self.assertEqual(uneven_of(other), uneven_of(one))
            self.assertEqual(best_factor(other), best_factor(one))
            self.assertEqual(error_range(other, ratio(1)), error_range(one, ratio(1)))

    def test_equality_and_kept_things(self):
        leg = [0]
        self.assertIs(Uneven(leg, None).leg, leg)
        self.assertEqual(tuple(vars(Uneven(3, 5)).items()), (("leg", 3), ("other", 5)))
        self.alike(Uneven(0, 1), Uneven(0, 1))
        for other in (Uneven(1, 1), Uneven(0, 2), None, (0, 1), 0):
            self.unlike(Uneven(0, 1), other)


class Errors(Case):

    def test_ranges(self):
        one = with_factors(2, 1, 3, "3/2")
        self.assertEqual(error_range(one, ratio(2)), (ratio("-1/2"), ratio("1/2")))
        self.assertEqual(error_range(one, ratio(1)), (ratio(0), ratio(2)))
        self.assertEqual(error_range(one, ratio(4)), (ratio("-3/4"), ratio("-1/4")))
        self.assertEqual(error_range(even(), ratio("2/3")), (ratio(0), ratio(0)))
        self.tuples(error_range(one, ratio(4)))

    def test_ranges_by_pushes(self):
        for name, one in plains():
            if name.startswith(("great", "far")):
                continue
            factor = ratio("7/3")
            least, greatest = error_range(one, factor)
            found = list(errors_of(one, factor))
            self.assertTrue(all(fraction(least) <= error <= fraction(greatest) for error in found))
            ends = [fraction(size) / fraction(factor) - 1 for size in one.factors]
            self.assertEqual((fraction(least), fraction(greatest)), (min(ends), max(ends)))

    def test_best(self):
        self.assertEqual(best_factor(with_factors(2, 1, 3, "3/2")), (ratio(2), ratio("1/2")))
        self.assertEqual(best_factor(with_factors(1, "1/3")), (ratio("2/3"), ratio("1/2")))
        self.assertEqual(best_factor(even()), (ratio("2/3"), ratio(0)))
        for _, one in plains():
            factor, error = best_factor(one)
            self.tuples((factor, error))
            sizes = [fraction(size) for size in one.factors]
            low, high = min(sizes), max(sizes)
            self.assertEqual(fraction(factor), (low + high) / 2)
            self.assertEqual(fraction(error), (high - low) / (high + low))
            # With it both errors are as great, so another factor makes one of them greater.
            self.assertEqual(low / fraction(factor) - 1, -fraction(error))
            self.assertEqual(high / fraction(factor) - 1, fraction(error))

    def test_outside(self):
        one = with_factors(2, 1, 3, "3/2")
        for factor, error, leg in (
                (2, "1/2", None), (2, "1/3", 1), (2, 0, 1), (2, 9, None), (1, 0, 0), (1, 1, 2),
                (1, 2, None), (3, "1/3", 1), (3, "2/3", None), ("3/2", "1/3", 2), (1, "1/2", 0)):
            self.assertEqual(outside_error(one, ratio(factor), ratio(error)), leg)
        self.assertIsNone(outside_error(even(), ratio("2/3"), ratio(0)))
        near = ratio(Fraction(1, 2) - Fraction(1, 10 ** 40))
        self.assertEqual(outside_error(one, ratio(2), near), 1)

    def test_outside_by_the_document(self):
        for _, one in plains():
            factor, error = best_factor(one)
            if max(factor) <= LARGE:
                self.assertIsNone(outside_error(one, factor, error))
                if error[0]:
                    less = ratio(fraction(error) * Fraction(99, 100))
                    low = fraction(factor) * (1 - fraction(less))
                    high = fraction(factor) * (1 + fraction(less))
                    want = [leg for leg, size in enumerate(one.factors) if not low <= fraction(size) <= high]
                    self.assertEqual(outside_error(one, factor, less), want[0])

    def test_bounds_of_factors(self):
        for factor in ((LARGE, 1), (1, LARGE), (LARGE, LARGE - 1)):
            least, greatest = error_range(even(), factor)
            self.assertEqual(fraction(least), Fraction(2, 3) / fraction(factor) - 1)
            self.assertEqual(least, greatest)
            self.assertIn(outside_error(even(), factor, ratio(0)), (0,))

    def test_refusals_in_order(self):
        for one in (even(), plain(), scale()):
            for thing in NOT_FACTORS:
                self.refuses(BadSize, (thing,), error_range, one, thing)
                self.refuses(BadSize, (thing,), outside_error, one, thing, ratio(0))
                self.refuses(BadSize, (thing,), outside_error, one, thing, None)
            for thing in NOT_RATIOS + ((-1, 1), (-1, 10 ** 99)):
                self.refuses(BadError, (thing,), outside_error, one, ratio(1), thing)
        self.assertIsNone(outside_error(even(), ratio(1), (10 ** 400, 1)))


if __name__ == "__main__":
    unittest.main()
