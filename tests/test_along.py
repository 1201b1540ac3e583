"""Point 1.11."""

import unittest
from fractions import Fraction

from tests.helper import (
    Case, NOT_ARM_SIZES, NOT_PLACES, SMALL, deep_list, fraction, place, plain, ratio, scale,
)
from wherelaid.along import (
    mirrored, mirrored_loads, shifted, shifted_loads, stretched, stretched_loads, turned,
    turned_loads,
)
from wherelaid.errors import BadLoads, BadPlace, BadPlain, BadScale, BadSize
from wherelaid.scales import Plain, Scale

LOADS = (
    (ratio(3), place(1, 2)), (ratio(0), place(SMALL, -SMALL)), (ratio("1/2"), place("-1/3", 0)),
)
BY = place("1/2", -3)
SIZE = ratio("2/3")
# Each way with what it does to coordinates, and what is passed to it behind the scale.
WAYS = (
    (shifted, shifted_loads, lambda x, y: (x + Fraction(1, 2), y - 3), (BY,)),
    (shifted, shifted_loads, lambda x, y: (x + Fraction(1, 2), y - 3), (list(BY),)),
    (turned, turned_loads, lambda x, y: (-y, x), ()),
    (mirrored, mirrored_loads, lambda x, y: (-x, y), ()),
    (stretched, stretched_loads, lambda x, y: (x * Fraction(2, 3), y * Fraction(2, 3)), (SIZE,)),
)
NOT_LOADS = (
    (None, 0, "many"), ([LOADS[0]] * 9, 0, "many"), ([LOADS[0], ()], 1, "load"),
    ([(ratio(-1), None)], 0, "weight"), ([LOADS[0], LOADS[1], (ratio(1), None)], 2, "place"),
)


def led(way, one):
    return place(*way(fraction(one[0]), fraction(one[1])))


class Scales(Case):

    def test_each_way(self):
        for move, _, way, told in WAYS:
            for one in (scale(), plain()):
                made = move(one, *told)
                self.assertIs(type(made), type(one))
                self.assertEqual(made.places, tuple(led(way, there) for there in one.places))
                self.assertEqual(made.factors, one.factors)
                self.tuples(made.places)

    def test_levers_and_legs_stay(self):
        for move, _, _, told in WAYS:
            one = scale()
            made = move(one, *told)
            self.assertEqual((made.levers, made.legs), (scale().levers, scale().legs))
            self.alike(one, scale())

    def test_ways_back(self):
        for one in (scale(), plain()):
            self.alike(turned(turned(turned(turned(one)))), one)
            self.alike(mirrored(mirrored(one)), one)
            self.alike(shifted(shifted(one, BY), place("-1/2", 3)), one)
            self.alike(stretched(stretched(one, SIZE), ratio("3/2")), one)
            self.assertIsNot(shifted(one, place(0, 0)), one)

    def test_errors(self):
        for one in (scale(), plain()):
            for thing in NOT_PLACES:
                self.refuses(BadPlace, (thing,), shifted, one, thing)
            for thing in NOT_ARM_SIZES:
                self.refuses(BadSize, (thing,), stretched, one, thing)

    def test_new_places_at_the_bounds(self):
        places = (place(0, 0), place(1, 1), place(2, "1/2"))
        ones = (ratio(1),) * 3
        made = Plain(places, ones)
        built = Scale(scale().levers, [(0, ratio(1))] * 3, places)
        for one, error in ((made, BadPlain), (built, BadScale)):
            self.assertEqual(shifted(one, place(SMALL - 2, 0)).places[2][0], (SMALL, 1))
            self.refuses(error, (2, "place"), shifted, one, place(SMALL - 1, 0))
            self.refuses(error, (1, "place"), shifted, one, place(SMALL, 0))
            # Only with 1/2, in the last place, does the bottom grow beyond the bound.
            self.refuses(error, (2, "place"), shifted, one, place(0, f"1/{SMALL - 1}"))
            self.assertEqual(stretched(one, ratio(SMALL // 2)).places[2][0], (SMALL, 1))
            self.refuses(error, (2, "place"), stretched, one, ratio(SMALL // 2 + 1))
            self.assertEqual(stretched(one, (1, SMALL // 2)).places[2][1], (1, SMALL))
            self.refuses(error, (2, "place"), stretched, one, (1, SMALL))


class Loads(Case):

    def test_each_way(self):
        for _, move, way, told in WAYS:
            for many in range(4):
                rows = LOADS[:many]
                want = tuple((weight, led(way, there)) for weight, there in rows)
                for loads in (rows, list(rows), deep_list(rows)):
                    self.assertEqual(move(loads, *told), want)
                    self.tuples(move(loads, *told))

    def test_new_places_are_not_checked(self):
        far = shifted_loads(LOADS, place(SMALL, SMALL))
        self.assertEqual(far[1], (ratio(0), place(2 * SMALL, 0)))
        self.assertEqual(stretched_loads(LOADS, ratio(SMALL))[1][1], place(SMALL ** 2, -SMALL ** 2))
        self.assertEqual(stretched_loads(LOADS, (1, SMALL))[2][1], ((-1, 3 * SMALL), ratio(0)))

    def test_errors(self):
        for _, move, _, told in WAYS:
            for loads, index, what in NOT_LOADS:
                self.refuses(BadLoads, (index, what), move, loads, *told)
        for thing in NOT_PLACES:
            self.refuses(BadPlace, (thing,), shifted_loads, LOADS, thing)
        for thing in NOT_ARM_SIZES:
            self.refuses(BadSize, (thing,), stretched_loads, LOADS, thing)

    def test_two_wrong_things(self):
        for loads, index, what in NOT_LOADS:
            self.refuses(BadLoads, (index, what), shifted_loads, loads, None)
            self.refuses(BadLoads, (index, what), stretched_loads, loads, None)

    def test_later_changes(self):
        loads = deep_list(LOADS)
        made = [move(loads, *told) for _, move, _, told in WAYS]
        loads[0][1][0] = ratio(9)
        loads[1][0] = ratio(9)
        loads.pop()
        for (_, move, _, told), early in zip(WAYS, made):
            self.assertEqual(early, move(LOADS, *told))


if __name__ == "__main__":
    unittest.main()
