"""Points 8.9 and 8.10: what known loads can make groups show, and which loads of a pool can."""

import random
import unittest
from fractions import Fraction
from itertools import combinations

from tests.grouped import ONE, ZERO, gives, great_groups, shows, some_groups, square
from tests.helper import (
    Case, NOT_RATIOS, NOT_SEQUENCES, borne, column, fits, fraction, great, lean_by_solving, place, ratio, solve,
    some_loads, spots,
)
from wherelaid.along import mirrored, mirrored_loads, shifted, shifted_loads
from wherelaid.errors import BadLoads, BadShowings, BadWeights, TooMany
from wherelaid.groups import Groups, showings_of
from wherelaid.hulls import corner_points
from wherelaid.laying import Own
from wherelaid.loadsets import (
    MixRange, SureLoads, lots_that_fit, mix_range, pushes_that_show, showing_corners, sure_loads,
)
from wherelaid.pushes import lean_pushes
from wherelaid.scales import Plain
from wherelaid.skins import Range, Tips, range_of
from wherelaid.steady import greatest_further


def all_groups(seed, rounds=1):
    return [one for _, one in some_groups(seed, rounds)] + [great_groups(), square(1, 2, 3, 4)]


def laid(groups, seed):
    """Some loads that do not tip, and others that do."""
    return [((ratio(2), spot),) for spot in spots(groups.places, seed, 3)
            if max(abs(part) for one in spot for part in one) <= 10 ** 12] + list(some_loads(groups.places))


def can_show(groups, loads, showings):
    """Whether some pushes fit the loads and give the showings: then some few legs alone do, in one way."""
    columns = []
    for leg, there in enumerate(groups.places):
        own = [fraction(groups.factors[leg]) if leg in row else Fraction(0) for row in groups.rows]
        columns.append([*column(there), *own])
    right = [*borne(loads), *[fraction(showing) for showing in showings]]
    if not any(right):
        return True
    for size in range(1, len(columns) + 1):
        for legs in combinations(range(len(columns)), size):
            amounts = solve([columns[leg] for leg in legs], right)
            if amounts is not None and min(amounts) >= 0:
                return True
    return False


class Mixes(Case):

    def check(self, one, loads, weights):
        told = self.takes_lists(mix_range, one, loads, weights)
        plain = range_of(one.scale, loads)
        if isinstance(plain, Tips):
            self.assertEqual(told, plain)
            return told
        self.assertIs(type(told), MixRange)
        sizes = [fraction(weight) for weight in weights]
        mixes = []
        for pushes in lean_by_solving(one.places, loads):
            row = shows(one, [ratio(push) for push in pushes])
            mixes.append(sum(size * own for size, own in zip(sizes, row)))
        self.assertEqual((fraction(told.least), fraction(told.greatest)), (min(mixes), max(mixes)))
        for pushes, end in ((told.low_pushes, told.least), (told.high_pushes, told.greatest)):
            self.tuples(pushes)
            self.assertTrue(fits(one.places, loads, pushes))
            self.assertEqual(sum(size * own for size, own in zip(sizes, shows(one, pushes))), fraction(end))
        return told

    def test_samples(self):
        # The middle of a plate: legs 0 and 2 alone, or legs 1 and 3.
        one, loads = square(1, 2, 3, 4), ((ratio(2), place(2, 1)),)
        told = self.check(one, loads, (ONE, ONE))
        self.assertEqual((told.least, told.greatest), (ratio(4), ratio(6)))
        told = self.check(one, loads, (ONE, ratio(-1)))
        self.assertEqual((told.least, told.greatest), (ratio(-2), ratio(-2)))
        told = self.check(one, loads, (ratio(-2), ZERO))
        self.assertEqual((told.least, told.greatest), (ratio(-4), ratio(-2)))
        self.assertEqual(told.low_pushes, (ZERO, ONE, ZERO, ONE))
        told = self.check(one, (), (ONE, ratio(5)))
        self.assertEqual((told.least, told.greatest, told.low_pushes), (ZERO, ZERO, (ZERO,) * 4))
        self.assertIs(type(mix_range(one, ((ONE, place(5, 1)),), (ONE, ONE))), Tips)

    def test_by_all_lean_pushes(self):
        kinds = set()
        lot = random.Random(2)
        for one in all_groups(1):
            for loads in laid(one, 3):
                weights = tuple(ratio(Fraction(lot.choice((-3, -1, 0, 1, 2)), lot.choice((1, 2)))) for _ in one)
                kinds.add(type(self.check(one, loads, weights)))
        self.assertEqual(kinds, {MixRange, Tips})

    def test_weights_of_one_give_the_whole_range(self):
        for one in all_groups(4):
            for loads in laid(one, 5)[:6]:
                told, whole = mix_range(one, loads, (ONE,) * len(one)), range_of(one.scale, loads)
                if isinstance(whole, Range):
                    self.assertEqual((told.least, told.greatest), (whole.least, whole.greatest))

    def test_great_weights(self):
        one = great_groups()
        self.check(one, ((ONE, one.places[0]),), tuple(great(200, k) for k in range(3)))

    def test_refusals(self):
        one = square(1, 2, 3, 4)
        for thing in NOT_SEQUENCES + (((ONE, place(0, 0)),) * 9,):
            self.refuses(BadLoads, (0, "many"), mix_range, one, thing, None)
        self.refuses(BadLoads, (0, "weight"), mix_range, one, ((None, None),), None)
        far = ((ONE, place(9, 9)),)
        for thing in NOT_SEQUENCES + ((), (ONE,), (ONE,) * 3, [ONE] * 4):
            self.refuses(BadWeights, (0, "many"), mix_range, one, far, thing)
        for size in NOT_RATIOS:
            self.refuses(BadWeights, (1, "weight"), mix_range, one, far, (ratio(-1), size))
            self.refuses(BadWeights, (0, "weight"), mix_range, one, far, [size, None])


class Corners(Case):

    def test_samples(self):
        one = square(1, 2, 3, 4)
        self.assertEqual(showing_corners(one, ((ratio(2), place(2, 1)),)), ((ONE, ratio(3)), (ratio(2), ratio(4))))
        self.assertEqual(showing_corners(one, ((ratio(2), place(4, 0)),)), ((ratio(4), ZERO),))
        self.assertEqual(showing_corners(one, ()), ((ZERO, ZERO),))
        self.assertIs(type(showing_corners(one, ((ONE, place(5, 1)),))), Tips)

    def test_all_corners(self):
        kinds = set()
        for one in all_groups(6, 2):
            if len(one) != 2:
                continue
            for loads in laid(one, 7):
                told = self.takes_lists(showing_corners, one, loads)
                whole = range_of(one.scale, loads)
                if isinstance(whole, Tips):
                    self.assertEqual(told, whole)
                    continue
                self.tuples(told)
                points = [showings_of(one, [ratio(push) for push in pushes])
                          for pushes in lean_by_solving(one.places, loads)]
                self.assertEqual(told, corner_points(points))
                kinds.add(len(told))
                # The sums of both showings at the corners go as far as the whole scale's range.
                sums = [fraction(a) + fraction(b) for a, b in told]
                self.assertEqual((min(sums), max(sums)), (fraction(whole.least), fraction(whole.greatest)))
                self.show_within(one, loads, told)
        self.assertGreaterEqual(len(kinds), 4)

    def show_within(self, one, loads, corners):
        """Check that points in the hull come, and others do not."""
        points = [[fraction(part) for part in corner] for corner in corners]
        middle = [sum(point[axis] for point in points) / len(points) for axis in (0, 1)]
        inside = [points[0], middle, [(a + 2 * b) / 3 for a, b in zip(points[-1], middle)]]
        for point in inside:
            told = self.takes_lists(pushes_that_show, one, loads, tuple(ratio(part) for part in point))
            self.assertTrue(gives(one, told, [ratio(part) for part in point]))
            self.assertTrue(fits(one.places, loads, told))
        for off in (Fraction(1, 10 ** 30), 1):
            beyond = [a + off * (a - b) if a != b else a + off for a, b in zip(points[0], middle)]
            if min(beyond) >= 0:
                self.assertIsNone(pushes_that_show(one, loads, tuple(ratio(part) for part in beyond)))

    def test_refusals(self):
        three = square(1, 2, 3, 4, rows=((0,), (1,), (2, 3)))
        self.refuses(TooMany, (2,), showing_corners, three, None)
        self.refuses(TooMany, (2,), showing_corners, three, ())
        for thing in NOT_SEQUENCES + (((ONE, place(0, 0)),) * 9,):
            self.refuses(BadLoads, (0, "many"), showing_corners, square(1, 2, 3, 4), thing)


class Showing(Case):

    def test_both_ways(self):
        lot = random.Random(9)
        kinds = [0, 0]
        for one in all_groups(8, 2):
            for loads in laid(one, 9)[:7]:
                rows = [tuple(ratio(lot.choice((0, 1, 2, Fraction(5, 2)))) for _ in one)]
                lean = lean_pushes(one.places, loads)
                rows += [showings_of(one, pushes) for pushes in lean[:1]]
                if lean:
                    both = zip(showings_of(one, lean[0]), showings_of(one, lean[-1]))
                    rows.append(tuple(ratio((fraction(a) + fraction(b)) / 2) for a, b in both))
                for showings in rows:
                    told = pushes_that_show(one, loads, showings)
                    kinds[told is None] += 1
                    if told is None:
                        self.assertFalse(can_show(one, loads, showings))
                    else:
                        self.tuples(told)
                        self.assertTrue(gives(one, told, showings))
                        self.assertTrue(fits(one.places, loads, told))
        self.assertGreater(min(kinds), 30, kinds)

    def test_samples(self):
        one, loads = square(1, 2, 3, 4), [(ratio(2), place(2, 1))]
        self.assertEqual(pushes_that_show(one, loads, [ONE, ratio(3)]), (ONE, ZERO, ONE, ZERO))
        self.assertEqual(pushes_that_show(one, loads, (ratio("3/2"), ratio("7/2"))), (ratio("1/2"),) * 4)
        self.assertIsNone(pushes_that_show(one, loads, (ratio("3/2"), ratio("7001/2000"))))
        self.assertIsNone(pushes_that_show(one, [(ONE, place(5, 1))], (ONE, ONE)))
        self.assertIsNone(pushes_that_show(one, (), (ONE, ZERO)))
        self.assertEqual(pushes_that_show(one, (), (ZERO, ZERO)), (ZERO,) * 4)

    def test_refusals(self):
        one = square(1, 2, 3, 4)
        for thing in NOT_SEQUENCES + (((ONE, place(0, 0)),) * 9,):
            self.refuses(BadLoads, (0, "many"), pushes_that_show, one, thing, None)
        for thing in NOT_SEQUENCES + ((), (ONE,), (ONE,) * 3):
            self.refuses(BadShowings, (0, "many"), pushes_that_show, one, [(ONE, place(5, 1))], thing)
        self.refuses(BadShowings, (1, "showing"), pushes_that_show, one, (), (ONE, ratio(-1)))


class Pools(Case):

    def check(self, one, pool, showings):
        told = self.takes_lists(lots_that_fit, one, pool, showings)
        self.tuples(told)
        want = [lot for size in range(len(pool) + 1) for lot in combinations(range(len(pool)), size)
                if can_show(one, [pool[load] for load in lot], showings)]
        self.assertEqual(told, tuple(sorted(want)))
        sure = self.takes_lists(sure_loads, one, pool, showings)
        if not want:
            self.assertIsNone(sure)
        else:
            self.assertIs(type(sure), SureLoads)
            self.assertEqual(sure.always, tuple(k for k in range(len(pool)) if all(k in lot for lot in want)))
            self.assertEqual(sure.never, tuple(k for k in range(len(pool)) if all(k not in lot for lot in want)))
        return told

    def test_samples(self):
        one = square(1, 1, 1, 1)
        pool = ((ONE, place(0, 0)), (ONE, place(4, 2)), (ratio(2), place(2, 1)), (ONE, place(9, 9)))
        # The middle load alone does what the first two do.
        self.assertEqual(self.check(one, pool, (ONE, ONE)), ((0, 1), (2,)))
        self.assertEqual(sure_loads(one, pool, (ONE, ONE)), SureLoads((), (3,)))
        self.assertEqual(self.check(one, pool, (ratio(2), ratio(2))), ((0, 1, 2),))
        self.assertEqual(sure_loads(one, pool, (ratio(2), ratio(2))), SureLoads((0, 1, 2), (3,)))
        self.assertEqual(self.check(one, pool, (ZERO, ZERO)), ((),))
        self.assertEqual(sure_loads(one, pool, (ZERO, ZERO)), SureLoads((), (0, 1, 2, 3)))
        self.assertEqual(self.check(one, pool, (ratio(9), ZERO)), ())
        self.assertEqual(self.check(one, (), (ZERO, ZERO)), ((),))
        self.assertEqual(sure_loads(one, (), (ZERO, ZERO)), SureLoads((), ()))
        self.assertIsNone(sure_loads(one, (), (ZERO, ONE)))
        # Loads of the weight 0 may be there or not, wherever.
        self.assertEqual(self.check(one, ((ZERO, place(50, 50)), (ONE, place(0, 0))), (ONE, ZERO)), ((0, 1), (1,)))

    def test_lots_in_order(self):
        one = square(1, 1, 1, 1)
        pool = ((ZERO, place(0, 0)),) * 4
        told = self.check(one, pool, (ZERO, ZERO))
        self.assertEqual(told[:5], ((), (0,), (0, 1), (0, 1, 2), (0, 1, 2, 3)))
        self.assertEqual(len(told), 16)
        self.assertEqual(sure_loads(one, pool, (ZERO, ZERO)), SureLoads((), ()))

    def test_many_pools(self):
        lot = random.Random(12)
        sizes = set()
        for _, one in some_groups(11, 1):
            there = list(spots(one.places, 13, 6))
            for number in range(2):
                pool = tuple((ratio(lot.choice((0, 1, 1, 2))), lot.choice(there)) for _ in range(lot.choice((2, 3, 4))))
                chosen = [load for load in pool if lot.random() < 0.5]
                lean = lean_pushes(one.places, chosen)
                showings = showings_of(one, lean[len(lean) // 2])
                told = self.check(one, pool, showings)
                self.assertTrue(told)
                sizes.add(len(told))
        self.assertGreater(len(sizes), 2)

    def test_refusals(self):
        one = square(1, 2, 3, 4)
        load = (ONE, place(0, 0))
        for call in (lots_that_fit, sure_loads):
            for thing in NOT_SEQUENCES + ((load,) * 9,):
                self.refuses(BadLoads, (0, "many"), call, one, thing, None)
            self.refuses(BadLoads, (4, "place"), call, one, (*[load] * 4, (ONE, None)), None)
            for many in (5, 8):
                self.refuses(TooMany, (4,), call, one, (load,) * many, None)
            for thing in NOT_SEQUENCES + ((), (ONE,), (ONE,) * 3):
                self.refuses(BadShowings, (0, "many"), call, one, (load,) * 4, thing)
            self.refuses(BadShowings, (0, "showing"), call, one, (), (ratio(-1), None))


class Together(Case):

    def test_led_along(self):
        one, loads = square(1, 2, 3, 4), ((ratio(2), place(2, 1)), (ONE, place(3, 1)))
        by = place("7/3", -5)
        moved = Groups(shifted(one.scale, by), one.rows)
        turned_about = Groups(mirrored(one.scale), one.rows)
        weights = (ratio(3), ratio("-1/2"))
        for other, rows in ((moved, shifted_loads(loads, by)), (turned_about, mirrored_loads(loads))):
            told, want = mix_range(other, rows, weights), mix_range(one, loads, weights)
            self.assertEqual((told.least, told.greatest), (want.least, want.greatest))
            self.assertEqual(showing_corners(other, rows), showing_corners(one, loads))

    def test_further_loads(self):
        # What may be laid at most beside the plate still shows, a little more tips.
        one = square(1, 2, 3, 4)
        own = Own(ratio(10), place(2, 1))
        most = greatest_further(one.places, own, (), place(6, 1))
        self.assertIs(type(mix_range(one, (own.as_load, (most, place(6, 1))), (ONE, ONE))), MixRange)
        more = ratio(fraction(most) + Fraction(1, 10 ** 9))
        self.assertIs(type(mix_range(one, (own.as_load, (more, place(6, 1))), (ONE, ONE))), Tips)

    def test_rows_of_legs(self):
        row = Groups(Plain((place(0, 0), place(1, 0), place(3, 0)), [ONE, ratio(2), ratio(5)]), ((0, 2), (1,)))
        loads = ((ratio(3), place(1, 0)),)
        self.assertEqual(showing_corners(row, loads), ((ZERO, ratio(6)), (ratio(7), ZERO)))


class Equality(Case):

    def test_equality(self):
        self.told_apart(MixRange(ZERO, ONE, (ZERO,), (ONE,)), {
            "least": ONE, "greatest": ZERO, "low_pushes": (), "high_pushes": ()})
        self.told_apart(SureLoads((0,), (1,)), {"always": (), "never": ()})


if __name__ == "__main__":
    unittest.main()
