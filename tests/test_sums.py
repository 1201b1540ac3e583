"""Points 8.3 and 8.4: totals that fit showings of groups, and whether the showings tell them."""

import unittest
from fractions import Fraction

from tests.grouped import (
    ONE, ZERO, great_groups, gives, some_groups, some_pushes, some_showings, square,
)
from tests.helper import Case, NOT_RATIOS, NOT_SEQUENCES, fraction, ratio
from wherelaid.errors import BadShowings, BadTotal
from wherelaid.groups import showings_of
from wherelaid.sums import Spread, Totals, pushes_of_total, spread_of, sure_total, total_told, totals_that_fit


def total(pushes):
    return sum(fraction(push) for push in pushes)


def ends(groups, showings):
    """The least and the greatest total by the words of the document."""
    least = greatest = Fraction(0)
    for row, showing in zip(groups.rows, showings):
        factors = [fraction(groups.factors[leg]) for leg in row]
        least += fraction(showing) / max(factors)
        greatest += fraction(showing) / min(factors)
    return least, greatest


def all_groups(seed):
    return [one for _, one in some_groups(seed)] + [great_groups(), square(1, 2, 3, 4), square(2, 2, 5, 5)]


class Totalling(Case):

    def test_samples(self):
        told = totals_that_fit(square(1, 2, 3, 4), (ratio(2), ratio(12)))
        self.assertEqual((told.least, told.greatest), (ratio(4), ratio(6)))
        self.assertEqual((told.light, told.heavy), ((ZERO, ONE, ZERO, ratio(3)), (ratio(2), ZERO, ratio(4), ZERO)))
        told = totals_that_fit(square(1, 2, 3, 4, rows=[[3, 2], [0, 1]]), [ratio(12), ratio(2)])
        self.assertEqual((told.least, told.greatest), (ratio(4), ratio(6)))
        none = totals_that_fit(square(1, 2, 3, 4), (ZERO, ZERO))
        self.assertEqual((none.least, none.greatest, none.light, none.heavy), (ZERO, ZERO, (ZERO,) * 4, (ZERO,) * 4))

    def test_ends_and_what_meets_them(self):
        for one in all_groups(1):
            for showings in some_showings(one, 2):
                told = self.takes_lists(totals_that_fit, one, showings)
                self.assertIs(type(told), Totals)
                self.assertEqual((fraction(told.least), fraction(told.greatest)), ends(one, showings))
                for pushes, size in ((told.light, told.least), (told.heavy, told.greatest)):
                    self.assertTrue(gives(one, pushes, showings))
                    self.tuples(pushes)
                    self.assertEqual(total(pushes), fraction(size))

    def test_all_pushes_are_between(self):
        for one in all_groups(3):
            for pushes in some_pushes(one, 4):
                least, greatest = ends(one, showings_of(one, pushes))
                self.assertTrue(least <= total(pushes) <= greatest)
                told = pushes_of_total(one, showings_of(one, pushes), ratio(total(pushes)))
                self.assertTrue(gives(one, told, showings_of(one, pushes)))
                self.assertEqual(total(told), total(pushes))

    def test_each_total_between(self):
        kinds = [0, 0]
        for one in all_groups(5):
            for showings in some_showings(one, 6, 2):
                least, greatest = ends(one, showings)
                kinds[least == greatest] += 1
                for size in (least, greatest, (least + greatest) / 2, (least + 4 * greatest) / 5):
                    told = self.takes_lists(pushes_of_total, one, showings, ratio(size))
                    self.assertTrue(gives(one, told, showings))
                    self.tuples(told)
                    self.assertEqual(total(told), size)
                off = Fraction(1, 10 ** 60)
                for size in (least - off, greatest + off, least - 1, Fraction(-1), greatest + 9):
                    self.assertIsNone(pushes_of_total(one, showings, ratio(size)))
                told = total_told(one, showings)
                self.assertEqual(told, ratio(least) if least == greatest else None)
        self.assertGreater(min(kinds), 20)

    def test_total_told(self):
        one = square(2, 2, 3, 4)
        self.assertEqual(total_told(one, (ratio(6), ZERO)), ratio(3))
        self.assertIsNone(total_told(one, (ratio(6), ratio("1/99"))))
        self.assertIsNone(total_told(one, (ZERO, ratio(1))))
        self.assertEqual(total_told(one, [ZERO, ZERO]), ZERO)
        self.assertEqual(total_told(square(2, 2, 5, 5), (ratio(1), ratio(1))), ratio("7/10"))
        self.assertEqual(total_told(square(9, 2, 2, 2, rows=((0,), (1, 2, 3))), (ratio(9), ratio(1))), ratio("3/2"))

    def test_refusals(self):
        one = square(1, 2, 3, 4)
        for call, rest in ((totals_that_fit, ()), (pushes_of_total, (None,)), (total_told, ())):
            for thing in NOT_SEQUENCES + ((), (ONE,), (ONE,) * 3):
                self.refuses(BadShowings, (0, "many"), call, one, thing, *rest)
            self.refuses(BadShowings, (1, "showing"), call, one, (ONE, ratio(-1)), *rest)
            self.refuses(BadShowings, (0, "showing"), call, one, (None, None), *rest)
        for size in NOT_RATIOS:
            self.refuses(BadTotal, (size,), pushes_of_total, one, (ONE, ONE), size)


class SureTotals(Case):

    def test_samples(self):
        self.assertIsNone(sure_total(square(2, 2, 5, 5)))
        self.assertIsNone(sure_total(square(2, 5, 2, 5, rows=((0, 2), (1, 3)))))
        self.assertEqual(sure_total(square(2, 2, 5, 6)), (2, 3))
        self.assertEqual(sure_total(square(1, 2, 5, 6)), (0, 1))
        self.assertEqual(sure_total(square(1, 2, 5, 6, rows=((3, 2), (1, 0)))), (2, 3))
        self.assertEqual(sure_total(square(1, 1, 1, 6, rows=((2,), (3, 1, 0)))), (0, 3))
        self.assertEqual(sure_total(square(1, 2, 2, 1, rows=((2,), (3, 1, 0)))), (0, 1))

    def test_both_ways(self):
        seen = set()
        for one in all_groups(7):
            told = sure_total(one)
            unlike = [row for row in one.rows if len({one.factors[leg] for leg in row}) > 1]
            seen.add(told is None)
            if told is None:
                self.assertEqual(unlike, [])
                for showings in some_showings(one, 8):
                    self.assertIsNotNone(total_told(one, showings))
                continue
            self.assertIs(type(told), tuple)
            leg, other = told
            self.assertEqual(leg, min(unlike[0]))
            self.assertEqual(other, min(own for own in unlike[0] if one.factors[own] != one.factors[leg]))
            # What is told shows two totals for the same showings.
            group = one.group_of(leg)
            showings = tuple(ONE if number == group else ZERO for number in range(len(one)))
            self.assertIsNone(total_told(one, showings))
        self.assertEqual(seen, {True, False})

    def test_spread_samples(self):
        self.assertEqual(spread_of(square(1, 2, 3, 4)), Spread(ratio(2), 0, 0, 1))
        self.assertEqual(spread_of(square(2, 1, 3, 9)), Spread(ratio(3), 1, 2, 3))
        self.assertEqual(spread_of(square(2, 1, 8, 4)), Spread(ratio(2), 0, 1, 0))
        self.assertEqual(spread_of(square(2, 2, 5, 5)), Spread(ONE, 0, 0, 0))
        self.assertEqual(spread_of(square(2, 2, 5, 5, rows=((2, 3), (0, 1)))), Spread(ONE, 0, 2, 2))
        self.assertEqual(spread_of(square(1, 3, 1, 3, rows=((0,), (1, 2, 3)))), Spread(ratio(3), 1, 2, 1))
        self.assertEqual(spread_of(square(1, 1, 3, 3, rows=((3,), (2, 1, 0)))), Spread(ratio(3), 1, 0, 2))

    def test_spreads(self):
        for one in all_groups(9):
            told = spread_of(one)
            self.assertIs(type(told), Spread)
            quotients = []
            for row in one.rows:
                factors = [fraction(one.factors[leg]) for leg in row]
                quotients.append(max(factors) / min(factors))
            self.assertEqual(fraction(told.quotient), max(quotients))
            self.assertEqual(told.group, quotients.index(max(quotients)))
            row = one.rows[told.group]
            factors = [fraction(one.factors[leg]) for leg in row]
            self.assertEqual(told.low, row[factors.index(min(factors))])
            self.assertEqual(told.high, row[factors.index(max(factors))])
            for showings in some_showings(one, 10):
                least, greatest = ends(one, showings)
                self.assertLessEqual(greatest, fraction(told.quotient) * least)
                if least:
                    shown = [quotient for quotient, showing in zip(quotients, showings) if showing[0]]
                    just = greatest == fraction(told.quotient) * least
                    self.assertEqual(just, all(quotient == max(quotients) for quotient in shown))


class Equality(Case):

    def test_equality(self):
        self.told_apart(Totals(ZERO, ONE, (ZERO,), (ONE,)), {
            "least": ONE, "greatest": ZERO, "light": (ONE,), "heavy": (ZERO,)})
        self.told_apart(Spread(ONE, 0, 1, 2), {"quotient": ZERO, "group": 1, "low": 0, "high": 1})


if __name__ == "__main__":
    unittest.main()
