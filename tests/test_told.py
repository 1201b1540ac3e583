"""Points 6.2 to 6.4: what tests at one-way places tell."""

import random
import unittest
from fractions import Fraction

from tests.helper import (
    Case, LAYOUTS, corners, fraction, great, lean_by_solving, place, ratio, small_layouts,
    spots,
)
from tests.test_fits import NOT_TESTS, ONE
from wherelaid.errors import BadPlaces, BadTests
from wherelaid.hulls import one_way
from wherelaid.places import turn_place
from wherelaid.told import Clash, Told, told_by


def only_rows(places, tests):
    """For each test its only pushes as Fractions, None if its place is shared."""
    rows = []
    for where, _ in tests:
        lean = lean_by_solving(places, [(ONE, where)])
        rows.append(lean[0] if len(lean) == 1 else None)
    return rows


class ToldBy(Case):

    def check(self, places, tests):
        """Check by the words of the document what is returned; return it."""
        told = told_by(places, tests)
        rows = only_rows(places, tests)
        legs = range(len(places))
        for (where, _), row in zip(tests, rows):
            self.assertEqual(one_way(places, where), row is not None)
        if isinstance(told, Clash):
            self.are_amounts(told.amounts, rows)
            burdens = [sum(fraction(a) * row[leg] for a, row in zip(told.amounts, rows) if row) for leg in legs]
            shown = sum(fraction(a) * fraction(test[1]) for a, test in zip(told.amounts, tests))
            self.assertTrue(all(burden >= 0 for burden in burdens) and shown <= 0)
            self.assertTrue(any(burdens) or shown)
            return told
        self.assertIs(type(told), Told)
        self.fits(told.fitting, rows, tests)
        for entries in (told.sure, told.amounts, told.others):
            self.assertIs(type(entries), tuple)
            self.assertEqual(len(entries), len(places))
        for leg in legs:
            if told.sure[leg] is None:
                self.assertIsNone(told.amounts[leg])
                self.fits(told.others[leg], rows, tests)
                self.assertNotEqual(told.others[leg][leg], told.fitting[leg])
            else:
                self.assertIsNone(told.others[leg])
                self.assertEqual(told.sure[leg], told.fitting[leg])
                self.are_amounts(told.amounts[leg], rows)
                sums = [sum(fraction(a) * row[other] for a, row in zip(told.amounts[leg], rows) if row)
                        for other in legs]
                self.assertEqual(sums, [int(other == leg) for other in legs])
                self.assertEqual(sum(fraction(a) * fraction(test[1]) for a, test in zip(told.amounts[leg], tests)),
                                 fraction(told.sure[leg]))
        return told

    def are_amounts(self, amounts, rows):
        self.tuples(amounts)
        self.assertEqual(len(amounts), len(rows))
        self.assertTrue(all(a == (0, 1) for a, row in zip(amounts, rows) if row is None))

    def fits(self, factors, rows, tests):
        self.tuples(factors)
        self.assertTrue(all(factor[0] > 0 for factor in factors))
        for row, (_, showing) in zip(rows, tests):
            if row is not None:
                self.assertEqual(sum(fraction(a) * b for a, b in zip(factors, row)), fraction(showing))

    def test_samples(self):
        places = corners()
        told = self.check(places, [(place(0, 0), ratio(2)), (place(2, 0), ratio(3)), (place(2, 1), ratio(9))])
        self.assertEqual(told.sure, (ratio(2), ratio(4), None, None))
        self.assertEqual(told.amounts[0], (ratio(1), ratio(0), ratio(0)))
        self.assertEqual(told.amounts[1], (ratio(-1), ratio(2), ratio(0)))
        # 2 * 1 - 4 would be left for the other end of the side.
        clash = self.check(places, [(place(0, 0), ratio(4)), (place(2, 0), ratio(1))])
        self.assertIs(type(clash), Clash)
        self.assertIs(type(self.check(places, [(place(0, 0), ratio(2)), (place(2, 0), ratio(1))])), Clash)
        twice = [(place(0, 0), ratio(2)), (place(0, 0), ratio(3))]
        self.assertIs(type(self.check(places, twice)), Clash)
        self.assertEqual(self.check(places, twice[:1] * 8).sure, (ratio(2), None, None, None))

    def test_no_tests_and_shared_places_alone(self):
        for tests in ((), ((place(2, 1), ratio(5)),), ((place(2, 1), ratio(5)), (place(1, 1), ratio("1/9")))):
            told = self.check(corners(), tests)
            self.assertEqual(told.sure, (None,) * 4)
        with_shared = [(place(4, 1), ratio(5)), (place(2, 1), ratio(1))]
        self.assertEqual(told_by(corners(), with_shared[:1]).fitting, told_by(corners(), with_shared).fitting)

    def test_true_and_random_showings(self):
        lot = random.Random(3)
        kinds = {}
        for name, places in small_layouts():
            for number in range(6):
                tests = []
                factors = [Fraction(lot.randint(1, 9), lot.randint(1, 4)) for _ in places]
                for where in spots(places, f"{name} {number}", 8 if number else 3):
                    lean = lean_by_solving(places, [(ONE, where)])
                    showing = sum(a * b for a, b in zip(factors, lean[0]))
                    if number in (2, 4) and lot.random() < 0.5:
                        showing *= lot.choice((Fraction(1, 2), 1, 2))
                    tests.append((where, ratio(showing)))
                told = self.check(places, tests)
                kinds[type(told)] = kinds.get(type(told), 0) + 1
                if number in (0, 1, 3, 5):
                    self.assertIs(type(told), Told)
                    for sure, factor in zip(told.sure, factors):
                        self.assertIn(sure, (None, ratio(factor)))
                self.alike(self.takes_lists(told_by, places, tests), told)
        self.assertTrue(min(kinds.values()) > 10, kinds)

    def test_a_factor_of_just_0_is_none(self):
        row = LAYOUTS["three in a row"]
        tests = [(place(0, 0), ratio(2)), (place(6, 3), ratio(1))]
        told = self.check(row, tests)
        self.assertEqual(told.sure, (None, ratio(2), ratio(1)))
        # The side (4, 0) to (4, 2): factor 1 at its middle and 2 at one end leave 0 for the other one.
        self.assertIs(type(self.check(corners(), [(place(4, 1), ratio(1)), (place(4, 0), ratio(2))])), Clash)
        self.assertIs(type(self.check(corners(), [(place(4, 1), ratio(1)), (place(4, 0), ratio("199/100"))])), Told)

    def test_led_along(self):
        tests = [(where, ratio(k + 1)) for k, where in enumerate(spots(corners(), 4, 5))]
        told = told_by(corners(), tests)
        other = told_by([turn_place(one) for one in corners()], [(turn_place(one), size) for one, size in tests])
        self.assertEqual(getattr(other, "sure", None), getattr(told, "sure", None))
        self.assertEqual(type(other), type(told))

    def test_great_numbers(self):
        places = LAYOUTS["great"]
        tests = [(places[k], great(150, k)) for k in range(5)]
        told = self.check(places, tests)
        self.assertEqual([sure for sure in told.sure if sure is not None],
                         [size for k, (_, size) in enumerate(tests) if one_way(places, places[k])])

    def test_refusals(self):
        self.refuses(BadPlaces, (0, "many"), told_by, corners()[:1], None)
        for index, word, rows in NOT_TESTS:
            self.refuses(BadTests, (index, word), told_by, corners(), rows)

    def test_equality(self):
        self.told_apart(Clash((ONE,)), {"amounts": ()})
        self.told_apart(Told((ONE,), (None,), (ONE,), (None,)),
                        {"sure": (None,), "amounts": (), "fitting": (ratio(2),), "others": ()})


if __name__ == "__main__":
    unittest.main()
