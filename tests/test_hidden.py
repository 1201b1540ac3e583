"""Points 6.9 and 6.10: hidden legs, and factors that tests leave to a leg."""

import random
import unittest
from fractions import Fraction

from tests.helper import (
    Case, LAYOUTS, corners, fraction, great, lean_by_solving, levers, place, plain, plains, ratio,
    scale, spots,
)
from tests.test_fits import NOT_TESTS, ONE, ends_at
from wherelaid.errors import BadPlaces, BadTests, NoLeg, NotHidden
from wherelaid.fits import tests_fault
from wherelaid.hidden import Left, factor_left, free_ways, hidden_legs
from wherelaid.scales import Plain, Scale

NOT_LEGS = (-1, 4, None, True, False, "0", (0,), 1.0)


def is_corner(places, leg):
    others = [one for k, one in enumerate(places) if k != leg]
    return not lean_by_solving(others, [(ONE, places[leg])])


def without(one, leg):
    """The scale of the other legs."""
    return Plain([there for k, there in enumerate(one.places) if k != leg],
                 [size for k, size in enumerate(one.factors) if k != leg])


def with_size(one, leg, size):
    return Plain(one.places, [ratio(size) if k == leg else factor for k, factor in enumerate(one.factors)])


class Hidden(Case):

    def test_samples(self):
        self.assertEqual(hidden_legs(corners()), ())
        self.assertEqual(hidden_legs(LAYOUTS["one inside"]), (0,))
        self.assertEqual(hidden_legs(LAYOUTS["one on a side"]), (3,))
        self.assertEqual(hidden_legs(LAYOUTS["three in a row"]), (0,))
        self.assertEqual(hidden_legs(LAYOUTS["six in a row"]), (0, 1, 3, 5))
        self.assertEqual(hidden_legs(LAYOUTS["grid"]), (1, 4))
        self.assertEqual(hidden_legs(LAYOUTS["two"]), ())

    def test_all_layouts(self):
        for name, places in LAYOUTS.items():
            want = tuple(leg for leg in range(len(places)) if not is_corner(places, leg))
            self.assertEqual(self.takes_lists(hidden_legs, places), want, name)
        for bad, told in ((None, (0, "many")), (corners()[:1], (0, "many")), ((None,) * 2, (0, "place"))):
            self.refuses(BadPlaces, told, hidden_legs, bad)


class FreeWays(Case):

    def test_samples(self):
        places = LAYOUTS["one on a side"]
        for size, ways in ((1, ("down",)), ("3/2", ("up", "down")), (2, ("up",)), ("149/100", ("down",))):
            one = Plain(places, [ratio(3), ratio(1), ratio(2), ratio(size)])
            self.assertEqual(free_ways(one, 3), ways)
        crossed = Plain(LAYOUTS["crossed"], [ratio(1), ratio(1), ratio(3), ratio(3), ratio(2)])
        self.assertEqual(free_ways(crossed, 4), ("up", "down"))
        for size, ways in (("1/2", ("down",)), (1, ("up", "down")), (3, ("up", "down")), ("7/2", ("up",))):
            self.assertEqual(free_ways(with_size(crossed, 4, size), 4), ways)

    def test_by_the_skins_of_the_others(self):
        seen = set()
        for name, one in plains():
            for leg in hidden_legs(one.places):
                least, greatest = ends_at(without(one, leg), one.places[leg])
                size = fraction(one.factors[leg])
                want = (("up",) if size >= least else ()) + (("down",) if size <= greatest else ())
                self.assertEqual(free_ways(one, leg), want, name)
                seen.add(want)
        self.assertEqual(seen, {("up",), ("down",), ("up", "down")})

    def test_other_factors_fit_too(self):
        lot = random.Random(5)
        for name, one in plains():
            if name.startswith(("great", "far")) or name.endswith("4"):
                continue
            for leg in hidden_legs(one.places):
                rows = []
                for where in spots(one.places, name, 6):
                    least, greatest = ends_at(one, where)
                    rows.append((where, ratio(lot.choice((least, greatest, (least + greatest) / 2)))))
                ways = free_ways(one, leg)
                size = fraction(one.factors[leg])
                for more in (Fraction(3, 2), 7, 10 ** 9):
                    if "up" in ways:
                        self.assertIsNone(tests_fault(with_size(one, leg, size * more), rows))
                    if "down" in ways:
                        self.assertIsNone(tests_fault(with_size(one, leg, size / more), rows))

    def test_refusals(self):
        for leg in NOT_LEGS:
            self.refuses(NoLeg, (leg,), free_ways, plain(), leg)
        for leg in range(4):
            self.refuses(NotHidden, (leg,), free_ways, plain(), leg)
        self.refuses(NotHidden, (1,), free_ways, Plain(LAYOUTS["one inside"], (ONE,) * 4), 1)
        self.assertEqual(free_ways(scale(), 4), free_ways(Plain(scale().places, scale().factors), 4))


class FactorLeft(Case):

    def check(self, one, rows, leg):
        """Check the ends by tests_fault with factors at them, between them and beyond them."""
        told = factor_left(one, rows, leg)

        def good(size):
            return tests_fault(with_size(one, leg, size), rows) is None

        if told is None:
            for size in (Fraction(1, 10 ** 9), Fraction(1, 7), 1, fraction(one.factors[leg]), 5, 10 ** 9):
                self.assertFalse(good(size))
            return told
        self.assertIs(type(told), Left)
        low = Fraction(0) if told.low is None else fraction(told.low)
        self.assertTrue(low > 0 or told.low is None)
        if told.low is None:
            self.assertTrue(good(Fraction(1, 10 ** 30)))
        else:
            self.assertTrue(good(low))
            self.assertFalse(good(low * Fraction(999, 1000)))
        if told.high is None:
            self.assertTrue(good(10 ** 30))
        else:
            high = fraction(told.high)
            self.assertTrue(high >= low and high > 0)
            self.assertTrue(good(high) and good((low + high) / 2))
            self.assertFalse(good(high * Fraction(1001, 1000)))
        return told

    def test_samples(self):
        one = Plain(corners(), [ratio(1), ratio(2), ratio(4), ratio(2)])
        middle = place(2, 1)
        # Half of leg 0 and half of leg 2, or 2 of the others: so 5/2 wants 5 of both at least.
        for rows, told in (
                ([], Left(None, None)), ([(middle, ratio(2))], Left(None, None)),
                ([(middle, ratio("5/2"))], Left(ratio(1), None)), ([(middle, ratio(1))], None),
                ([(middle, ratio("9/4"))], Left(ratio("1/2"), None)), ([(place(0, 0), ratio(7))], Left(ratio(7), ratio(7))),
                ([(place(2, 0), ratio(2))], Left(ratio(2), ratio(2))), ([(place(2, 0), ratio(1))], None),
                ([(place(2, 0), ratio("1/2"))], None), ([(place(4, 0), ratio(2))], Left(None, None)),
                ([(place(4, 0), ratio(3))], None), ([(middle, ratio("5/2")), (place(0, 0), ratio("1/2"))], None),
                ([(place(0, 0), ratio(3)), (place(0, 0), ratio(2))], None)):
            self.assertEqual(self.check(one, rows, 0), told)
        self.assertEqual(factor_left(one, [(middle, ratio(1))], 1), None)
        self.assertEqual(factor_left(with_size(one, 3, 1), [(middle, ratio(1))], 1), Left(None, ONE))

    def test_one_end_each(self):
        hidden = Plain(LAYOUTS["one on a side"], [ratio(3), ratio(1), ratio(2), ratio(1)])
        self.assertEqual(self.check(hidden, [(place(2, 2), ratio(1))], 3), Left(None, ONE))
        self.assertEqual(self.check(hidden, [(place(2, 2), ratio(2))], 3), Left(ratio(2), None))
        self.assertEqual(self.check(hidden, [(place(2, 2), ratio("3/2"))], 3), Left(None, None))
        self.assertIsNone(self.check(hidden, [(place(2, 2), ratio(1)), (place(2, 2), ratio(2))], 3))

    def test_random_tests(self):
        lot = random.Random(6)
        kinds = {}
        for name, one in plains():
            if name.startswith(("great", "far")) or name.endswith("4"):
                continue
            for number in range(4):
                rows = []
                for where in spots(one.places, f"{name} {number}", (1, 2, 4, 8)[number]):
                    least, greatest = ends_at(one, where)
                    factor = lot.choice((1, 1, 1, 1, Fraction(2, 3), Fraction(5, 4))) if number < 3 else 1
                    rows.append((where, ratio(lot.choice((least, greatest, (least + greatest) / 2)) * factor)))
                leg = lot.randrange(len(one))
                told = self.check(one, rows, leg)
                # The leg's own factor is not used.
                self.assertEqual(factor_left(with_size(one, leg, 99), rows, leg), told)
                kind = told and (told.low is None, told.high is None)
                kinds[kind] = kinds.get(kind, 0) + 1
                if leg in hidden_legs(one.places) and told is not None:
                    self.assertTrue(told.low is None or told.high is None)
                if number == 3:
                    self.assertIsNotNone(told)
        self.assertEqual(len(kinds), 5, kinds)

    def test_levers_and_lists(self):
        one = Scale(levers(), [(0, ratio(3)), (1, ratio(2)), (3, ratio(9)), (2, ratio(1))], corners())
        rows = ((place(2, 1), one.factors[1]), (place(4, 0), one.factors[1]))
        self.assertEqual(self.takes_lists(factor_left, one, rows, 2),
                         factor_left(Plain(one.places, one.factors), rows, 2))

    def test_great_numbers(self):
        places = LAYOUTS["great"]
        one = Plain(places, [great(100, k) for k in range(6)])
        rows = [(places[0], one.factors[0]), (places[5], one.factors[5])]
        self.check(one, rows, 0)
        self.check(one, rows, 5)

    def test_refusals(self):
        one = Plain(corners(), (ONE,) * 4)
        for index, word, rows in NOT_TESTS:
            self.refuses(BadTests, (index, word), factor_left, one, rows, None)
        for leg in NOT_LEGS:
            self.refuses(NoLeg, (leg,), factor_left, one, [], leg)

    def test_equality(self):
        self.told_apart(Left(ONE, ratio(2)), {"low": None, "high": None})


if __name__ == "__main__":
    unittest.main()
