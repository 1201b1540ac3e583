"""Points 8.5 to 8.7: the centres of loads that fit showings of groups, and what the showings tell."""

import random
import unittest
from fractions import Fraction

from tests.grouped import (
    ONE, ZERO, corner_selections, great_groups, gives, load_of, shows, some_groups, some_pushes,
    some_showings, square,
)
from tests.helper import Case, NOT_RATIOS, NOT_SEQUENCES, fraction, great, place, ratio, scale
from wherelaid.along import mirrored, shifted, stretched, turned
from wherelaid.errors import BadDirection, BadPlace, BadShowings, NothingShown
from wherelaid.found import (
    CentreRange, OtherLoads, alike_loads, centre_corners, centre_range, found_load, pushes_of_centre, sure_along,
)
from wherelaid.groups import Groups, showings_of
from wherelaid.hulls import corner_points
from wherelaid.leverways import cut_lever, lengthened, set_between
from wherelaid.places import mirror_place, shift_place, stretch_place, turn_place
from wherelaid.scales import plain_of
from wherelaid.scaletext import read_scale, scale_text

ALONG = (place(1, 0), place(0, 1), place(1, 1), place("-1/2", "2/3"), place(0, -3), (great(150, 3), great(150, 9)))
# Things that are no couples of ratios.
NOT_COUPLES = NOT_SEQUENCES + ((), (ONE,), (ONE,) * 3, (1, 2), ([1, 1], ONE)) + tuple(
    (ONE, size) for size in NOT_RATIOS) + tuple([size, None] for size in NOT_RATIOS[:4])


def number(direction, there):
    """The number of a place along a direction; the place may be of Fractions."""
    sizes = [part if isinstance(part, Fraction) else fraction(part) for part in there]
    return sum(fraction(part) * size for part, size in zip(direction, sizes))


def centre(groups, pushes):
    return load_of(groups, pushes)[1:]


def all_groups(seed, rounds=1):
    return [one for _, one in some_groups(seed, rounds)] + [great_groups(), square(1, 2, 3, 4)]


def centres(groups, showings):
    """The centres under pushes on one leg alone in each group that shows, as places."""
    rows = [[ratio(push) for push in pushes] for pushes in corner_selections(groups, showings)]
    return [tuple(ratio(part) for part in centre(groups, row)) for row in rows]


class Centres(Case):

    def test_samples(self):
        one = square(1, 1, 1, 1)
        self.assertEqual(centre_corners(one, (ONE, ONE)), (place(0, 1), place(4, 1)))
        self.assertEqual(centre_corners(one, (ONE, ZERO)), (place(0, 0), place(4, 0)))
        self.assertEqual(centre_corners(square(1, 1, 1, 1, rows=((0, 2), (1, 3))), (ONE, ratio(3))),
                         (place(0, "3/2"), place(3, 0), place(4, "1/2"), place(1, 2)))
        self.assertEqual(centre_corners(square(1, 1, 1, 1, rows=((0,), (1, 2, 3))), (ONE, ZERO)), (place(0, 0),))

    def test_corners_by_the_words(self):
        for one in all_groups(1):
            for showings in list(some_showings(one, 2))[1:]:
                if any(showing[0] for showing in showings):
                    told = self.takes_lists(centre_corners, one, showings)
                    self.tuples(told)
                    self.assertEqual(told, corner_points(centres(one, showings)))

    def test_each_centre_within_and_none_beyond(self):
        lot = random.Random(3)
        kinds = [0, 0]
        for one in all_groups(4)[::2]:
            for showings in list(some_showings(one, 5, 1))[1:]:
                if not any(showing[0] for showing in showings):
                    continue
                corners = centre_corners(one, showings)
                for spot in [*corners, *self.spots(corners, lot)]:
                    inside = self.is_in_hull(corners, spot)
                    kinds[inside] += 1
                    told = self.takes_lists(pushes_of_centre, one, showings, spot)
                    if inside:
                        self.tuples(told)
                        self.assertTrue(gives(one, told, showings))
                        self.assertEqual(centre(one, told), tuple(fraction(part) for part in spot))
                    else:
                        self.assertIsNone(told)
        self.assertGreater(min(kinds), 60)

    def spots(self, corners, lot):
        """Points in and about the hull: means of corners, and what lies beyond them."""
        points = [[fraction(part) for part in corner] for corner in corners]
        for _ in range(3):
            one, two = lot.choice(points), lot.choice(points)
            for share in (Fraction(1, 2), Fraction(-1, 10 ** 30), Fraction(5, 4)):
                yield tuple(ratio(a + share * (b - a)) for a, b in zip(one, two))
        yield tuple(ratio(sum(point[axis] for point in points) / len(points)) for axis in (0, 1))
        yield tuple(ratio(points[0][axis] + (3, -1)[axis]) for axis in (0, 1))

    def is_in_hull(self, corners, spot):
        """Whether the spot changes no corner of the hull, or is one of them."""
        return corner_points([*corners, spot]) == corners

    def test_pushes_at_random(self):
        for one in all_groups(6):
            for pushes in some_pushes(one, 7):
                if any(push[0] for push in pushes):
                    there = tuple(ratio(part) for part in centre(one, pushes))
                    showings = showings_of(one, pushes)
                    corners = centre_corners(one, showings)
                    self.assertTrue(self.is_in_hull(corners, there))
                    told = pushes_of_centre(one, showings, there)
                    self.assertTrue(gives(one, told, showings))
                    self.assertEqual(centre(one, told), centre(one, pushes))

    def test_numbers_along(self):
        for one in all_groups(8):
            for showings in list(some_showings(one, 9, 2))[1:]:
                if not any(showing[0] for showing in showings):
                    continue
                for way in ALONG:
                    told = self.takes_lists(centre_range, one, showings, way)
                    self.assertIs(type(told), CentreRange)
                    numbers = [number(way, spot) for spot in centres(one, showings)]
                    self.assertEqual((fraction(told.least), fraction(told.greatest)), (min(numbers), max(numbers)))
                    for pushes, size in ((told.low_pushes, told.least), (told.high_pushes, told.greatest)):
                        self.tuples(pushes)
                        self.assertTrue(gives(one, pushes, showings))
                        self.assertEqual(number(way, centre(one, pushes)), fraction(size))

    def test_range_sample(self):
        told = centre_range(square(1, 2, 3, 4), (ratio(2), ratio(12)), (ONE, ZERO))
        # 2 at 0 or 1 at 4 against 4 at 4 or 3 at 0.
        self.assertEqual((told.least, told.greatest), (ZERO, ratio(4)))
        self.assertEqual((told.low_pushes, told.high_pushes),
                         ((ratio(2), ZERO, ZERO, ratio(3)), (ZERO, ONE, ratio(4), ZERO)))

    def test_refusals(self):
        one = square(1, 2, 3, 4)
        for call, rest in ((centre_corners, ()), (pushes_of_centre, (None,)), (centre_range, (None,))):
            for thing in NOT_SEQUENCES + ((), (ONE,), (ONE,) * 3):
                self.refuses(BadShowings, (0, "many"), call, one, thing, *rest)
            self.refuses(BadShowings, (1, "showing"), call, one, (ZERO, ratio(-1)), *rest)
            for none in ((ZERO, ZERO), [ZERO, ZERO]):
                self.refuses(NothingShown, (none,), call, one, none, *rest)
        for thing in NOT_COUPLES:
            self.refuses(BadPlace, (thing,), pushes_of_centre, one, (ONE, ONE), thing)
        for thing in NOT_COUPLES + ((ZERO, ZERO), [ZERO, ZERO]):
            self.refuses(BadDirection, (thing,), centre_range, one, (ONE, ONE), thing)
            self.refuses(BadDirection, (thing,), sure_along, one, thing)

    def test_places_of_any_size(self):
        self.assertIsNone(pushes_of_centre(square(1, 2, 3, 4), (ONE, ONE), (great(250, 1), ZERO)))
        self.assertIsNone(pushes_of_centre(square(1, 2, 3, 4), (ONE, ONE), [(10 ** 13, 1), ZERO]))


class Loads(Case):

    def test_found_loads(self):
        one = square(2, 1, 3, 4, rows=((0,), (1,), (2, 3)))
        self.assertEqual(found_load(one, (ratio(6), ONE, ZERO)), (ratio(4), (ONE, ZERO)))
        self.assertEqual(found_load(one, [ratio(6), ZERO, ZERO]), (ratio(3), place(0, 0)))
        self.assertIsNone(found_load(one, (ratio(6), ONE, ratio("1/9"))))
        self.assertIsNone(found_load(one, (ZERO,) * 3))
        self.assertIsNone(found_load(square(1, 1, 1, 1), (ZERO, ONE)))

    def test_both_ways(self):
        kinds = [0, 0]
        for one in all_groups(10, 3):
            for showings in some_showings(one, 11):
                several = any(showing[0] and len(row) > 1 for row, showing in zip(one.rows, showings))
                load = self.takes_lists(found_load, one, showings)
                others = self.takes_lists(alike_loads, one, showings)
                if several:
                    self.assertIsNone(load)
                    self.assertIs(type(others), OtherLoads)
                    for pushes in (others.one, others.other):
                        self.tuples(pushes)
                        self.assertTrue(gives(one, pushes, showings))
                    self.assertNotEqual(load_of(one, others.one), load_of(one, others.other))
                    continue
                self.assertIsNone(others)
                if not any(showing[0] for showing in showings):
                    self.assertIsNone(load)
                else:
                    pushes = [ratio(push) for push in corner_selections(one, showings)[0]]
                    self.tuples(load)
                    self.assertEqual((fraction(load[0]), *[fraction(part) for part in load[1]]), load_of(one, pushes))
                kinds[load is None] += 1
        self.assertGreater(min(kinds), 10)

    def test_refusals(self):
        one = square(1, 2, 3, 4)
        for call in (found_load, alike_loads):
            for thing in NOT_SEQUENCES + ((), (ONE,), (ONE,) * 3):
                self.refuses(BadShowings, (0, "many"), call, one, thing)
            self.refuses(BadShowings, (1, "showing"), call, one, (ONE, ratio(-1)))


class Along(Case):

    def check(self, one, way):
        told = self.takes_lists(sure_along, one, way)
        numbers = [number(way, spot) for spot in one.places]
        flat = all(len({(one.factors[leg], numbers[leg]) for leg in row}) == 1 for row in one.rows)
        self.assertEqual(told is None, len(set(numbers)) == 1 or flat)
        if told is not None:
            self.assertIs(type(told), OtherLoads)
            for pushes in (told.one, told.other):
                self.tuples(pushes)
                self.assertTrue(all(push[0] >= 0 for push in pushes))
            self.assertEqual(shows(one, told.one), shows(one, told.other))
            self.assertNotEqual(*[number(way, centre(one, pushes)) for pushes in (told.one, told.other)])
        return told is None

    def test_samples(self):
        # The groups lie at x = 0 and x = 4, or at y = 0 and y = 2.
        across = square(3, 5, 5, 3, rows=((0, 3), (1, 2)))
        self.assertTrue(self.check(across, place(1, 0)))
        self.assertTrue(self.check(across, place("-7/3", 0)))
        self.assertFalse(self.check(across, place(0, 1)))
        self.assertFalse(self.check(across, place(1, "1/99")))
        self.assertFalse(self.check(square(3, 5, 5, 4, rows=((0, 3), (1, 2))), place(1, 0)))
        self.assertFalse(self.check(square(3, 5, 6, 3, rows=((3, 0), (2, 1))), place(1, 0)))
        self.assertTrue(self.check(square(5, 5, 1, 1), place(0, 2)))
        self.assertFalse(self.check(square(5, 5, 5, 1, rows=((0, 1, 2), (3,))), place(1, 0)))

    def test_rows_across(self):
        # Legs in a row: all have one number across it, whatever the factors.
        for name, one in some_groups(12, 3):
            if name == "three in a row":
                self.assertTrue(self.check(one, place(-1, 2)))
                self.assertTrue(self.check(one, place("1/2", -1)))
                self.assertEqual(self.check(one, place(1, 0)), len(one) == 3)
            if name == "four upright":
                self.assertTrue(self.check(one, place(3, 0)))
                self.assertFalse(self.check(one, place(3, "1/7")))

    def test_by_the_words(self):
        kinds = [0, 0]
        for one in all_groups(13, 4):
            for way in ALONG:
                kinds[self.check(one, way)] += 1
        self.assertGreater(min(kinds), 5, kinds)

    def test_led_along(self):
        one = square(3, 5, 5, 3, rows=((0, 3), (1, 2)))
        for led in (shifted(one.scale, place(5, "-1/3")), mirrored(one.scale)):
            self.assertTrue(self.check(Groups(led, one.rows), place(1, 0)))
            self.assertFalse(self.check(Groups(led, one.rows), place(0, 1)))


class Together(Case):

    def test_changes_that_keep_the_factors_and_texts(self):
        one = scale()
        rows = ((0, 3), (1,), (2, 4))
        groups = Groups(one, rows)
        showings = (ratio(2), ratio("3/2"), ratio(7))
        back, _ = read_scale(scale_text(one))
        for other in (lengthened(one, 1, ratio("7/3")), cut_lever(one, 1), set_between(one, 2, ratio(3), ratio(5)), back, plain_of(one)):
            led = Groups(other, rows)
            self.assertEqual(centre_corners(led, showings), centre_corners(groups, showings))
            for way in ALONG[:3]:
                told, want = centre_range(led, showings, way), centre_range(groups, showings, way)
                self.assertEqual((told.least, told.greatest), (want.least, want.greatest))
                self.assertEqual(sure_along(led, way) is None, sure_along(groups, way) is None)
            self.assertEqual(found_load(led, (ZERO, ONE, ZERO)), found_load(groups, (ZERO, ONE, ZERO)))
            self.assertEqual(alike_loads(led, showings) is None, alike_loads(groups, showings) is None)

    def test_plates_led_along(self):
        one = scale()
        rows = ((0, 3), (1,), (2, 4))
        showings = (ratio(2), ratio("3/2"), ratio(7))
        corners = centre_corners(Groups(one, rows), showings)
        load = found_load(Groups(one, rows), (ZERO, ratio(4), ZERO))
        by, size = place(5, "-1/3"), ratio("7/2")
        for led, lead in ((shifted(one, by), lambda spot: shift_place(spot, by)), (turned(one), turn_place),
                          (mirrored(one), mirror_place), (stretched(one, size), lambda spot: stretch_place(spot, size))):
            groups = Groups(led, rows)
            self.assertEqual(centre_corners(groups, showings), corner_points([lead(spot) for spot in corners]))
            self.assertEqual(found_load(groups, (ZERO, ratio(4), ZERO)), (load[0], lead(load[1])))
            for spot in corners:
                self.assertIsNotNone(pushes_of_centre(groups, showings, lead(spot)))


class Equality(Case):

    def test_equality(self):
        self.told_apart(CentreRange(ZERO, ONE, (ZERO,), (ONE,)), {
            "least": ONE, "greatest": ZERO, "low_pushes": (), "high_pushes": ()})
        self.told_apart(OtherLoads((ZERO,), (ONE,)), {"one": (), "other": ()})


if __name__ == "__main__":
    unittest.main()
