"""Points 9.1 to 9.3: what is shown in steps, and what may be behind it."""

import random
import unittest
from fractions import Fraction

from tests.grouped import ONE, SQUARE, ZERO, some_groups, square
from tests.helper import (
    Case, NOT_ABOVE_ZERO, NOT_PLACES, NOT_RATIOS, NOT_SEQUENCES, corners, fraction, great, place, plain, plains,
    ratio, scale, some_loads, spots,
)
from wherelaid.errors import (
    BadLoads, BadPlace, BadShowing, BadShowings, BadShown, BadStep, BadWeight, BeyondSide,
)
from wherelaid.hulls import side_beyond
from wherelaid.leverways import lengthened, set_between
from wherelaid.scales import Plain
from wherelaid.shown import (
    Behind, shown_of, shown_range, sure_shown, totals_behind, weights_at, weights_behind,
)
from wherelaid.skins import Tips, lower_at, range_of, upper_at
from wherelaid.sums import totals_that_fit

NOT_FROM_ZERO = NOT_RATIOS + (ratio(-1), ratio("-1/9"))
STEPS = ("1/3", 1, "7/2", "1/1000000", 50)


def cut(showing, step):
    """What is shown of a showing, as Fractions."""
    return showing // step * step


class Steps(Case):

    def test_samples(self):
        for showing, step, want in ((7, 2, 6), (8, 2, 8), ("799/100", 2, 6), (0, 5, 0), (4, 5, 0), ("5/3", "1/2", "3/2"),
                                    ("1/3", "1/3", "1/3"), (10 ** 200, 3, 10 ** 200 - 1), (5, "2/3", "14/3")):
            self.assertEqual(shown_of(ratio(showing), ratio(step)), ratio(want))

    def test_by_the_words(self):
        lot = random.Random(1)
        for _ in range(200):
            showing, step = Fraction(lot.randint(0, 400), lot.randint(1, 30)), Fraction(lot.randint(1, 60), lot.randint(1, 30))
            told = shown_of(ratio(showing), ratio(step))
            self.tuples(told)
            self.assertEqual((fraction(told) / step).denominator, 1)
            self.assertTrue(fraction(told) <= showing < fraction(told) + step)
        self.assertEqual(fraction(shown_of(great(250, 1), great(200, 2))),
                         cut(fraction(great(250, 1)), fraction(great(200, 2))))

    def test_refusals(self):
        for showing in NOT_FROM_ZERO:
            self.refuses(BadShowing, (showing,), shown_of, showing, None)
        for step in NOT_ABOVE_ZERO:
            self.refuses(BadStep, (step,), shown_of, ONE, step)
        self.assertEqual(shown_of(ZERO, ONE), ZERO)


class WhatIsBehind(Case):

    def test_samples(self):
        one = plain()
        # Factors from 1/2 to 4.
        self.assertEqual(weights_behind(one, ratio(2), ratio(6)), Behind(ratio("3/2"), ratio(16)))
        self.assertEqual(weights_behind(one, ratio(2), ZERO), Behind(ZERO, ratio(4)))
        even = Plain(corners(), [ratio(2)] * 4)
        self.assertEqual(weights_behind(even, ONE, ratio(5)), Behind(ratio("5/2"), ratio(3)))
        self.assertEqual(weights_at(one, place(0, 0), ONE, ratio(5)), Behind(ratio(5), ratio(6)))
        # In the middle from 5/6 (legs 0 and 2) to 9/4 (legs 1 and 3).
        self.assertEqual(weights_at(one, place(2, 1), ratio(2), ratio(6)), Behind(ratio("8/3"), ratio("48/5")))
        self.assertEqual(totals_behind(square(1, 2, 3, 4), ratio(2), (ratio(4), ZERO)), Behind(ratio(2), ratio("20/3")))

    def test_all_places_and_loads(self):
        for name, one in plains():
            if name.startswith(("great", "far")) or name.endswith("4"):
                continue
            for step, times in ((Fraction(1, 3), 0), (Fraction(7, 2), 3)):
                shown = times * step
                told = weights_behind(one, ratio(step), ratio(shown))
                self.assertIs(type(told), Behind)
                self.ends(one, told, step, shown)
                for there in spots(one.places, 2, 3):
                    if max(abs(part) for row in there for part in row) <= 10 ** 12:
                        at = weights_at(one, there, ratio(step), ratio(shown))
                        self.assertEqual(fraction(at.least), shown / fraction(upper_at(one, there)))
                        self.assertEqual(fraction(at.end), (shown + step) / fraction(lower_at(one, there)))
                        self.assertLessEqual(fraction(told.least), fraction(at.least))
                        self.assertLessEqual(fraction(at.end), fraction(told.end))
                        self.at_place(one, there, at, step, shown)

    def ends(self, one, told, step, shown):
        """Check that the least total comes at the leg with the greatest factor, the end nowhere."""
        factors = [fraction(factor) for factor in one.factors]
        self.assertEqual(fraction(told.least), shown / max(factors))
        self.assertEqual(fraction(told.end), (shown + step) / min(factors))

    def test_which_totals_can_be_shown_so(self):
        # Just the totals from least on and below the end can be shown so.
        for one in (plain(), Plain(corners(), [ratio(2)] * 4), scale()):
            factors = [fraction(factor) for factor in one.factors]
            for step, times in ((Fraction(2), 3), (Fraction(1, 3), 0), (Fraction(1, 5), 7)):
                shown = times * step
                told = weights_behind(one, ratio(step), ratio(shown))
                least, end = fraction(told.least), fraction(told.end)
                off = Fraction(1, 10 ** 20)
                for weight in (least, end, end - off, least - off, (least + end) / 2, least + off):
                    if weight >= 0:
                        low, high = cut(weight * min(factors), step), cut(weight * max(factors), step)
                        self.assertEqual(low <= shown <= high, least <= weight < end)

    def at_place(self, one, there, told, step, shown):
        least, end = fraction(told.least), fraction(told.end)
        for weight in (least, end, (least + end) / 2, end * Fraction(999, 1000), least * Fraction(999, 1000)):
            low = cut(weight * fraction(lower_at(one, there)), step)
            high = cut(weight * fraction(upper_at(one, there)), step)
            self.assertEqual(low <= shown <= high, least <= weight < end)

    def test_totals_of_groups(self):
        lot = random.Random(4)
        for _, one in some_groups(3, 2):
            for step in (Fraction(1, 3), Fraction(5)):
                rows = [lot.choice((0, 0, 1, 4)) * step for _ in one]
                told = self.takes_lists(totals_behind, one, ratio(step), tuple(ratio(size) for size in rows))
                self.assertIs(type(told), Behind)
                low = totals_that_fit(one, tuple(ratio(size) for size in rows))
                high = totals_that_fit(one, tuple(ratio(size + step) for size in rows))
                self.assertEqual((told.least, told.end), (low.least, high.greatest))

    def test_refusals(self):
        one = plain()
        for step in NOT_ABOVE_ZERO:
            self.refuses(BadStep, (step,), weights_behind, one, step, None)
            self.refuses(BadStep, (step,), weights_at, one, place(9, 9), step, None)
            self.refuses(BadStep, (step,), totals_behind, square(1, 2, 3, 4), step, None)
        for shown in NOT_FROM_ZERO + (ONE, ratio("3/2"), ratio(-2), ratio("2/3")):
            self.refuses(BadShown, (shown,), weights_behind, one, ratio(2), shown)
            self.refuses(BadShown, (shown,), weights_at, one, place(9, 9), ratio(2), shown)
            self.refuses(BadShowings, (1, "shown"), totals_behind, square(1, 2, 3, 4), ratio(2), (ZERO, shown))
            self.refuses(BadShowings, (0, "shown"), totals_behind, square(1, 2, 3, 4), ratio(2), [shown, None])
        for thing in NOT_PLACES:
            self.refuses(BadPlace, (thing,), weights_at, one, thing, None, None)
        far = place(9, 9)
        self.refuses(BeyondSide, (side_beyond(corners(), far),), weights_at, one, far, ONE, ONE)
        for thing in NOT_SEQUENCES + ((), (ZERO,), (ZERO,) * 3):
            self.refuses(BadShowings, (0, "many"), totals_behind, square(1, 2, 3, 4), ONE, thing)

    def test_multiples_of_a_broken_step(self):
        self.assertEqual(weights_behind(plain(), ratio("2/3"), ratio("10/3")).least, ratio("5/6"))
        for shown in ("1/3", 1, "11/3"):
            self.refuses(BadShown, (ratio(shown),), weights_behind, plain(), ratio("2/3"), ratio(shown))


class ShownRanges(Case):

    def test_samples(self):
        one, loads = Plain(SQUARE, [ratio(k) for k in (1, 2, 4, 2)]), [(ratio(4), place(2, 1))]
        # Showings from 8 to 10.
        for step, want in ((1, (8, 10)), (3, (6, 9)), (8, (8, 8)), (10, (0, 10)), (11, (0, 0)), ("4/3", (8, "28/3"))):
            self.assertEqual(shown_range(one, loads, ratio(step)), tuple(ratio(size) for size in want))
        self.assertEqual(shown_range(one, (), ONE), (ZERO, ZERO))
        self.assertIs(type(shown_range(one, [(ONE, place(5, 1))], ONE)), Tips)

    def test_by_the_range(self):
        kinds = set()
        for name, one in plains():
            if not name.startswith(("great", "far")) and not name.endswith("4"):
                for loads in some_loads(one.places):
                    whole = range_of(one, loads)
                    step = ratio("3/7")
                    told = self.takes_lists(shown_range, one, loads, step)
                    kinds.add(type(told))
                    if isinstance(whole, Tips):
                        self.assertEqual(told, whole)
                    else:
                        self.tuples(told)
                        ends = [cut(fraction(size), fraction(step)) for size in (whole.least, whole.greatest)]
                        self.assertEqual([fraction(size) for size in told], ends)
        self.assertEqual(kinds, {tuple, Tips})

    def test_sure_shown(self):
        one = plain()
        # Factors from 1/2 to 4.
        for weight, step, want in ((2, 8, None), (2, 9, 0), ("9/4", 9, None), (0, "1/99", 0), (1, 4, None), (1, 5, 0),
                                   (10 ** 30, 10 ** 31, 0)):
            told = sure_shown(one, ratio(weight), ratio(step))
            self.assertEqual(told, None if want is None else ratio(want))
        even = Plain(corners(), [ratio(2)] * 4)
        self.assertEqual(sure_shown(even, ratio("7/2"), ratio(2)), ratio(6))
        near = Plain(corners(), [ratio(2), ratio("21/10"), ratio(2), ratio("19/10")])
        self.assertEqual(sure_shown(near, ratio(10), ratio(4)), None)
        self.assertEqual(sure_shown(near, ratio(10), ratio("19/3")), ratio(19))
        self.assertEqual(sure_shown(near, ratio(10), ratio("21/2")), None)
        self.assertEqual(sure_shown(near, ratio("99/10"), ratio("21/2")), ratio("21/2"))

    def test_sure_shown_both_ways(self):
        kinds = [0, 0]
        for name, one in plains():
            factors = [fraction(factor) for factor in one.factors]
            for weight in (0, "1/3", 1, "22/7", 40):
                for step in STEPS:
                    ends = {cut(fraction(ratio(weight)) * size, fraction(ratio(step))) for size in factors}
                    told = sure_shown(one, ratio(weight), ratio(step))
                    self.assertEqual(told, None if len(ends) > 1 else ratio(min(ends)), name)
                    kinds[told is None] += 1
        self.assertGreater(min(kinds), 50)

    def test_refusals(self):
        one = plain()
        for thing in NOT_SEQUENCES + (((ONE, place(0, 0)),) * 9,):
            self.refuses(BadLoads, (0, "many"), shown_range, one, thing, None)
        for step in NOT_ABOVE_ZERO:
            self.refuses(BadStep, (step,), shown_range, one, [(ONE, place(9, 9))], step)
            self.refuses(BadStep, (step,), sure_shown, one, ONE, step)
        for weight in NOT_FROM_ZERO:
            self.refuses(BadWeight, (weight,), sure_shown, one, weight, None)


class Together(Case):

    def test_changes_that_keep_the_factors(self):
        one = scale()
        loads = ((ratio(5), place(2, 1)), (ONE, place(1, 1)))
        for other in (lengthened(one, 1, ratio("7/3")), set_between(one, 2, ratio(3), ratio(5))):
            for step in STEPS:
                self.assertEqual(shown_range(other, loads, ratio(step)), shown_range(one, loads, ratio(step)))
                self.assertEqual(weights_behind(other, ratio(step), ratio(step)), weights_behind(one, ratio(step), ratio(step)))


class Equality(Case):

    def test_equality(self):
        self.told_apart(Behind(ZERO, ONE), {"least": ONE, "end": ZERO})


if __name__ == "__main__":
    unittest.main()
