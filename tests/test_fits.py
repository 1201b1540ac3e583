"""Point 6.1: tests and factors that fit them."""

import random
import unittest
from fractions import Fraction

from tests.helper import (
    Case, LARGE, LAYOUTS, NOT_ABOVE_ZERO, NOT_PLACES, NOT_SEQUENCES, corners, fraction,
    lean_by_solving, place, plains, ratio, scale, spots,
)
from wherelaid.errors import BadPlaces, BadTests
from wherelaid.fits import check_tests, tests_fault
from wherelaid.scales import Plain

NOT_FACTORS = NOT_ABOVE_ZERO + ((LARGE + 1, 1), (1, LARGE + 1))
ONE = ratio(1)
# What makes a row of tests wrong for the corners of a plate: index, word and the tests.
NOT_TESTS = (
    (0, "many", None), (0, "many", ((place(0, 0), ONE),) * 9), (0, "many", "ab"), (0, "test", [None]),
    (1, "place", ((place(0, 0), ONE), (None, None))), (1, "showing", ((place(0, 0), ONE), (place(9, 9), None))),
    (1, "outside", ((place(0, 0), ONE), (place(9, 9), ONE))))


def ends_at(one, where):
    """The least and the greatest showing of a weight 1 there, as Fractions."""
    shown = [sum(fraction(a) * b for a, b in zip(one.factors, row))
             for row in lean_by_solving(one.places, [(ONE, where)])]
    return min(shown), max(shown)


class Checking(Case):

    def test_right_ones(self):
        rows = ((place(0, 0), ONE), (place(4, 1), ratio("2/3")), (place(2, 1), (LARGE, 1)), (place(2, 1), (1, LARGE)))
        self.assertEqual(self.takes_lists(check_tests, corners(), rows), rows)
        self.assertEqual(check_tests(corners(), ()), ())
        self.assertEqual(check_tests(corners(), rows * 2), rows * 2)
        row = LAYOUTS["three in a row"]
        self.assertEqual(check_tests(row, [[list(place(1, "1/2")), ONE]]), ((place(1, "1/2"), ONE),))

    def test_refusals(self):
        for index, word, rows in NOT_TESTS:
            self.refuses(BadTests, (index, word), check_tests, corners(), rows)
            self.refuses(BadTests, (index, word), tests_fault, Plain(corners(), (ONE,) * 4), rows)
        for thing in NOT_SEQUENCES:
            self.refuses(BadTests, (0, "many"), check_tests, corners(), thing)
        good = (place(1, 1), ONE)
        for thing in (None, 0, "ab", (), (place(1, 1),), good + (ONE,), {0: 1, 1: 2}):
            self.refuses(BadTests, (1, "test"), check_tests, corners(), (good, thing))
        for thing in NOT_PLACES:
            self.refuses(BadTests, (0, "place"), check_tests, corners(), ((thing, None), None))
        for thing in NOT_FACTORS:
            self.refuses(BadTests, (0, "showing"), check_tests, corners(), ((place(9, 9), thing), None))
        for where in (place(-1, 0), place(4, "5/2"), place("-1/99", 0)):
            self.refuses(BadTests, (2, "outside"), check_tests, corners(), (good, good, (where, ONE), None))
        self.refuses(BadTests, (0, "outside"), check_tests, LAYOUTS["three in a row"], [(place(1, 1), ONE)])
        for bad, told in ((None, (0, "many")), (corners()[:1], (0, "many")), (corners() + corners()[:1], (4, "twice"))):
            self.refuses(BadPlaces, told, check_tests, bad, None)


class Fitting(Case):

    def test_samples(self):
        one = Plain(corners(), [ratio(1), ratio(2), ratio(4), ratio(2)])
        middle = place(2, 1)
        for showing, want in ((2, None), ("9/4", None), ("5/2", None), ("199/100", (0, "below")), ("251/100", (0, "above"))):
            self.assertEqual(tests_fault(one, [(middle, ratio(showing))]), want)
        rows = [(place(4, 1), ratio(3)), (middle, ratio(2)), (place(0, 0), ratio(2)), (place(4, 2), ratio(1))]
        self.assertEqual(tests_fault(one, rows), (2, "above"))
        self.assertEqual(tests_fault(one, rows[:2] + rows[3:]), (2, "below"))
        self.assertIsNone(tests_fault(one, rows[:2]))
        self.assertIsNone(tests_fault(one, []))

    def test_against_solving(self):
        lot = random.Random(1)
        seen = set()
        for name, one in plains():
            if name.startswith(("far", "great")):
                continue
            rows = []
            want = None
            for where in spots(one.places, name, 4):
                least, greatest = ends_at(one, where)
                showing = lot.choice((least, greatest, (least + greatest) / 2, least * Fraction(99, 100),
                                      greatest * Fraction(100, 99), least, greatest))
                if max(showing.numerator, showing.denominator) > LARGE:
                    continue
                if want is None and not least <= showing <= greatest:
                    want = (len(rows), "below" if showing < least else "above")
                rows.append((where, ratio(showing)))
            self.assertEqual(tests_fault(one, rows), want)
            seen.add(want and want[1])
        self.assertEqual(seen, {None, "below", "above"})

    def test_scales_of_levers_and_lists(self):
        one = scale()
        rows = tuple((where, ratio(ends_at(one, where)[1])) for where in spots(one.places, 5, 6))
        self.assertIsNone(self.takes_lists(tests_fault, one, rows))


if __name__ == "__main__":
    unittest.main()
