"""Point 9.4: loads weighed in parts, each shown in steps."""

import random
import unittest
from fractions import Fraction

from tests.helper import Case, NOT_ABOVE_ZERO, NOT_SEQUENCES, NOT_WHOLE, fraction, great, ratio
from tests.test_shown import NOT_FROM_ZERO, cut
from wherelaid.errors import BadMany, BadShowing, BadShowings, BadShown, BadStep
from wherelaid.inparts import parts_for, parts_range, whole_range
from wherelaid.shown import shown_of

ZERO, ONE = ratio(0), ratio(1)


def totals(showing, step, many):
    """All sums of what is shown of so many whole parts."""
    reached = {(0, 0)}
    for _ in range(many):
        reached = {(used + part, shown + part // step * step) for used, shown in reached
                   for part in range(showing - used + 1)}
    return sorted({shown for used, shown in reached if used == showing})


class Ranges(Case):

    def test_samples(self):
        for showing, step, many, want in ((7, 2, 1, (6, 6)), (7, 2, 2, (4, 6)), (7, 2, 3, (2, 6)), (7, 2, 4, (0, 6)),
                                          (7, 2, 5, (0, 6)), (8, 2, 2, (6, 8)), (0, 3, 12, (0, 0)), (2, 3, 12, (0, 0)),
                                          ("7/2", "1/3", 3, ("8/3", "10/3")), (100, 1, 12, (89, 100))):
            self.assertEqual(parts_range(ratio(showing), ratio(step), many), tuple(ratio(size) for size in want))

    def test_by_going_through_parts(self):
        # Whole parts are enough where what is above a multiple is at least 3 less than the step.
        for showing in (0, 1, 17, 20, 37, 40, 57, 61, 97):
            for many in (1, 2, 3):
                low, high = parts_range(ratio(showing), ratio(20), many)
                self.assertEqual(totals(showing, 20, many), list(range(low[0], high[0] + 1, 20)))

    def test_each_total_of_the_range_and_no_other(self):
        lot = random.Random(2)
        for number in range(120):
            step = Fraction(lot.choice((1, 2, 7)), lot.choice((1, 3)))
            showing = Fraction(lot.randint(0, 60), lot.choice((1, 2, 5)))
            many = (1, 2, 3, 5, 12)[number % 5]
            low, high = self.takes_lists(parts_range, ratio(showing), ratio(step), many)
            self.assertEqual(fraction(high), cut(showing, step))
            self.assertEqual(fraction(low), max(0, cut(showing, step) - (many - 1) * step))
            total = fraction(low)
            while total <= fraction(high):
                told = parts_for(ratio(showing), ratio(step), many, ratio(total))
                self.parts(told, showing, step, many, total)
                total += step
            self.assertIsNone(parts_for(ratio(showing), ratio(step), many, ratio(fraction(high) + step)))
            self.assertIsNone(parts_for(ratio(showing), ratio(step), many, ratio(fraction(high) + 50 * step)))
            if fraction(low) > 0:
                self.assertIsNone(parts_for(ratio(showing), ratio(step), many, ratio(fraction(low) - step)))

    def parts(self, told, showing, step, many, total):
        self.tuples(told)
        self.assertEqual(len(told), many)
        self.assertTrue(all(part[0] >= 0 for part in told))
        self.assertEqual(sum(fraction(part) for part in told), showing)
        self.assertEqual(sum(fraction(shown_of(part, ratio(step))) for part in told), total)

    def test_great_numbers(self):
        showing, step = fraction(great(250, 1)) * 10 ** 60, fraction(great(100, 2))
        low, high = parts_range(ratio(showing), ratio(step), 12)
        self.parts(parts_for(ratio(showing), ratio(step), 12, low), showing, step, 12, fraction(low))
        self.parts(parts_for(ratio(showing), ratio(step), 12, high), showing, step, 12, fraction(high))

    def test_refusals(self):
        for call, rest in ((parts_range, ()), (parts_for, (None,))):
            for showing in NOT_FROM_ZERO:
                self.refuses(BadShowing, (showing,), call, showing, None, None, *rest)
            for step in NOT_ABOVE_ZERO:
                self.refuses(BadStep, (step,), call, ONE, step, None, *rest)
            for many in NOT_WHOLE + (0, 13, -1):
                self.refuses(BadMany, (many,), call, ONE, ONE, many, *rest)
        for total in NOT_FROM_ZERO + (ONE, ratio("3/2"), ratio(-2)):
            self.refuses(BadShown, (total,), parts_for, ONE, ratio(2), 3, total)


class Wholes(Case):

    def test_samples(self):
        for step, rows, want in ((2, (4,), (4, 4)), (2, (4, 0), (4, 6)), (2, (0, 0, 0), (0, 4)), ("1/3", (1, "2/3"), ("5/3", 2)),
                                 (5, (5,) * 12, (60, 115))):
            given = tuple(ratio(size) for size in rows)
            told = self.takes_lists(whole_range, ratio(step), given)
            self.tuples(told)
            self.assertEqual(told, tuple(ratio(size) for size in want))

    def test_with_the_ranges_of_parts(self):
        # A whole can be shown so exactly if such parts of some whole are shown with this sum.
        step = ratio(3)
        for many in (1, 2, 4):
            rows = (ratio(6),) + (ZERO,) * (many - 1)
            low, high = whole_range(step, rows)
            for size in range(0, 40, 3):
                least, greatest = parts_range(ratio(size), step, many)
                within = fraction(least) <= 6 <= fraction(greatest)
                self.assertEqual(within, fraction(low) <= size <= fraction(high))

    def test_refusals(self):
        for step in NOT_ABOVE_ZERO:
            self.refuses(BadStep, (step,), whole_range, step, None)
        for thing in NOT_SEQUENCES + ((), [], (ZERO,) * 13):
            self.refuses(BadShowings, (0, "many"), whole_range, ONE, thing)
        for shown in NOT_FROM_ZERO + (ONE, ratio("3/2"), ratio(-2)):
            self.refuses(BadShowings, (1, "shown"), whole_range, ratio(2), (ZERO, shown))
            self.refuses(BadShowings, (0, "shown"), whole_range, ratio(2), [shown, None])


if __name__ == "__main__":
    unittest.main()
