"""Points 2.1 to 2.3 and 2.7: hulls, corners, sides and bearing legs."""

import unittest
from fractions import Fraction
from itertools import permutations
from math import gcd

from tests.helper import (
    Case, LAYOUTS, NOT_PLACES, NOT_SEQUENCES, ROWS, SMALL, column, corners, deep_list, fraction,
    lean_by_solving, place, ratio, solve,
)
from wherelaid.errors import BadPlace, BadPlaces, BeyondSide
from wherelaid.hulls import (
    Side, bearing_legs, corner_points, hull_of, is_within, one_way, side_beyond, sides_of,
)

NOT_LEGS = (
    (None, 0, "many"), ([], 0, "many"), ([place(0, 0)], 0, "many"),
    ([place(k, 0) for k in range(7)], 0, "many"), ([None, place(0, 0)], 0, "place"),
    ([place(0, 0), None], 1, "place"), ([place(0, 0), place(1, 0), place(0, 0)], 2, "twice"),
)


def cross(one, two, three):
    (ax, ay), (bx, by), (cx, cy) = [[fraction(part) for part in there] for there in (one, two, three)]
    return (bx - ax) * (cy - ay) - (by - ay) * (cx - ax)


def in_hull(places, there):
    """Whether some one to three of the places make up the point with shares from 0 on."""
    return bool(lean_by_solving(places, ((ratio(1), there),)))


def points_about(places):
    """Points at the legs, between them, in the middle, just beside and far."""
    for one in places:
        yield one
        for by in (Fraction(1, 97), Fraction(-1, 97), 3):
            yield place(fraction(one[0]) + by, fraction(one[1]))
            yield place(fraction(one[0]), fraction(one[1]) + by)
    for one, other in zip(places, places[1:] + places[:1]):
        for part in (Fraction(1, 2), Fraction(1, 3), Fraction(-1, 3), Fraction(3, 2)):
            yield tuple(ratio(fraction(a) + part * (fraction(b) - fraction(a)))
                        for a, b in zip(one, other))


def small(there):
    return max(abs(part) for one in there for part in one) <= SMALL


class Corners(Case):

    def test_samples(self):
        self.assertEqual(hull_of(LAYOUTS["square"]), (0, 1, 2, 3))
        self.assertEqual(hull_of(LAYOUTS["triangle"]), (0, 1, 2))
        self.assertEqual(hull_of(LAYOUTS["triangle clockwise"]), (0, 2, 1))
        self.assertEqual(hull_of(LAYOUTS["one inside"]), (1, 2, 3))
        self.assertEqual(hull_of(LAYOUTS["one on a side"]), (0, 1, 2))
        self.assertEqual(hull_of(LAYOUTS["crossed"]), (0, 2, 1, 3))
        self.assertEqual(hull_of(LAYOUTS["row and one"]), (0, 3, 4))
        self.assertEqual(hull_of(LAYOUTS["grid"]), (0, 2, 5, 3))
        self.assertEqual(hull_of(LAYOUTS["two"]), (0, 1))
        self.assertEqual(hull_of(LAYOUTS["three in a row"]), (1, 2))
        self.assertEqual(hull_of(LAYOUTS["four upright"]), (0, 1))
        self.assertEqual(hull_of(LAYOUTS["six in a row"]), (2, 4))

    def test_small_crosses(self):
        unit = [place(0, 0), place(1, 0), place(0, 1), place("1/3", "1/3"), place("1/2", "1/3")]
        self.assertEqual(hull_of(unit), (0, 1, 2))
        self.assertEqual(hull_of(unit + [place(1, 1)]), (0, 1, 5, 2))
        self.assertEqual(hull_of([place(0, 0), place(10 ** 12, 1), place("1/2", 0)]), (0, 2, 1))
        near = [place(0, 0), place(10 ** 12, 10 ** 12), place(1, "999999999999/1000000000000")]
        self.assertEqual(hull_of(near), (0, 2, 1))

    def test_by_the_document(self):
        for places in LAYOUTS.values():
            found = hull_of(places)
            want = [leg for leg in range(len(places))
                    if not in_hull(places[:leg] + places[leg + 1:], places[leg])]
            self.assertEqual(sorted(found), want)
            self.assertEqual(found[0], min(want))
            self.tuples(found)
            if len(found) > 2:
                # Counterclockwise: every other place lies to the left of each side.
                for leg, goal in zip(found, found[1:] + found[:1]):
                    for one in places:
                        self.assertGreaterEqual(cross(places[leg], places[goal], one), 0)

    def test_all_orders_of_places(self):
        for name in ("square", "crossed", "three in a row"):
            places = LAYOUTS[name]
            want = set(places[leg] for leg in hull_of(places))
            for order in permutations(places):
                found = hull_of(order)
                self.assertEqual(set(order[leg] for leg in found), want)
                self.assertEqual(found[0], min(found))
                if len(found) > 2:
                    self.assertGreater(cross(*[order[leg] for leg in found[:3]]), 0)

    def test_corner_points(self):
        for places in LAYOUTS.values():
            want = [places[leg] for leg in hull_of(places)]
            for points in (places, places * 3, deep_list(places), places[::-1] + places[:1]):
                found = corner_points(points)
                self.tuples(found)
                self.assertEqual(set(found), set(want))
                self.assertEqual(len(found), len(want))
                values = [tuple(fraction(part) for part in there) for there in found]
                self.assertEqual(values[0], min(values))
                if len(found) > 2:
                    at = want.index(found[0])
                    self.assertEqual(list(found), want[at:] + want[:at])

    def test_corner_points_of_one_and_of_many(self):
        one = place("1/2", -3)
        for many in (1, 2, 7):
            self.assertEqual(corner_points([list(one)] * many), (one,))
        self.assertEqual(corner_points((place(3, 1), place(0, 0))), (place(0, 0), place(3, 1)))
        self.assertEqual(corner_points([place(0, 4), place(0, -1), place(0, 4)]),
                         (place(0, -1), place(0, 4)))
        many = [place(x, y) for x in range(5) for y in range(4)]
        self.assertEqual(corner_points(many), (place(0, 0), place(4, 0), place(4, 3), place(0, 3)))
        # By value, not by top and bottom: 2/3 is more than 1/2 and less than 3/4.
        far = [place("3/4", 0), place("1/2", 0), place("2/3", 10 ** 40)]
        self.assertEqual(corner_points(far), (place("1/2", 0), place("3/4", 0), far[2]))


class Sides(Case):

    def test_square(self):
        self.assertEqual(list(sides_of(corners())), [
            Side((0, 1), ratio(0), (0, 1)), Side((-1, 0), ratio(-4), (1, 2)),
            Side((0, -1), ratio(-2), (2, 3)), Side((1, 0), ratio(0), (0, 3))])

    def test_row(self):
        one, other, first, last = sides_of(LAYOUTS["three in a row"])
        # From leg 1 at 0,0 to leg 2 at 6,3, with leg 0 at 2,1 between them.
        self.assertEqual(one, Side((-1, 2), ratio(0), (0, 1, 2)))
        self.assertEqual(other, Side((1, -2), ratio(0), (0, 1, 2)))
        self.assertEqual(first, Side((2, 1), ratio(0), (1,)))
        self.assertEqual(last, Side((-2, -1), ratio(-15), (2,)))

    def test_least_is_a_ratio(self):
        sides = sides_of([place("1/2", "1/3"), place("5/2", "1/3")])
        self.assertEqual(list(sides), [
            Side((0, 1), ratio("1/3"), (0, 1)), Side((0, -1), ratio("-1/3"), (0, 1)),
            Side((1, 0), ratio("1/2"), (0,)), Side((-1, 0), ratio("-5/2"), (1,))])

    def test_by_the_document(self):
        for name, places in LAYOUTS.items():
            found = hull_of(places)
            sides = sides_of(places)
            self.assertIs(type(sides), tuple)
            goals = found[1:] + found[:1]
            if name in ROWS:
                self.assertEqual(len(sides), 4)
                for side, leg in zip(sides[2:], found):
                    self.assertEqual(side.legs, (leg,))
            else:
                self.assertEqual(len(sides), len(found))
            for side, leg, goal in zip(sides, found, goals):
                self.assertIn(leg, side.legs)
                self.assertIn(goal, side.legs)
                # To the left of the way from the leg to the goal.
                across = [fraction(b) - fraction(a) for a, b in zip(places[leg], places[goal])]
                self.assertGreater(across[0] * side.normal[1] - across[1] * side.normal[0], 0)
            for side in sides:
                self.tuples((side.normal, side.least, side.legs))
                self.assertEqual(gcd(*side.normal), 1)
                heights = [sum(number * fraction(part) for number, part in zip(side.normal, one))
                           for one in places]
                self.assertEqual(min(heights), fraction(side.least))
                at = [leg for leg, height in enumerate(heights) if height == min(heights)]
                self.assertEqual(side.legs, tuple(at))

    def test_within_and_beyond(self):
        for places in LAYOUTS.values():
            for there in points_about(places):
                if not small(there):
                    continue
                within = in_hull(places, there)
                self.assertIs(is_within(places, there), within)
                beyond = [side for side in sides_of(places)
                          if sum(number * fraction(part) for number, part in zip(side.normal, there))
                          < fraction(side.least)]
                self.assertEqual(not beyond, within)
                self.assertEqual(side_beyond(places, there), beyond[0] if beyond else None)

    def test_equal_sides(self):
        told = ((0, 1), ratio("1/2"), (0, 1))
        self.alike(Side(*told), Side(*told))
        for index, other in ((0, (1, 0)), (0, None), (1, ratio(0)), (2, (0, 1, 2)), (2, [0, 1])):
            changed = list(told)
            changed[index] = other
            self.unlike(Side(*told), Side(*changed))
        for other in (None, told, 0, "side", object()):
            self.unlike(Side(*told), other)

    def test_a_side_keeps_what_it_is_given(self):
        normal, legs = [1, 2], [None]
        side = Side(normal, "least", legs)
        self.assertIs(side.normal, normal)
        self.assertEqual(side.least, "least")
        self.assertIs(side.legs, legs)


class Bearing(Case):

    def test_samples(self):
        square = corners()
        self.assertEqual(bearing_legs(square, place(0, 0)), (0,))
        self.assertEqual(bearing_legs(square, place(1, 0)), (0, 1))
        self.assertEqual(bearing_legs(square, place(1, 1)), (0, 1, 2, 3))
        self.assertEqual(bearing_legs(LAYOUTS["one on a side"], place(3, 1)), (1, 2, 3))
        self.assertEqual(bearing_legs(LAYOUTS["one on a side"], place(2, 2)), (1, 2, 3))
        self.assertEqual(bearing_legs(LAYOUTS["three in a row"], place(4, 2)), (0, 1, 2))
        self.assertEqual(bearing_legs(LAYOUTS["three in a row"], place(6, 3)), (2,))
        for there, told in ((place(0, 0), True), (place(1, 0), True), (place(1, 1), False)):
            self.assertIs(one_way(square, there), told)
        self.assertIs(one_way(LAYOUTS["one on a side"], place(3, 1)), False)
        self.assertIs(one_way(LAYOUTS["triangle"], place(1, 1)), True)
        self.assertIs(one_way(LAYOUTS["three in a row"], place(6, 3)), True)
        self.assertIs(one_way(LAYOUTS["three in a row"], place(4, 2)), False)
        self.assertIs(one_way(LAYOUTS["two"], place(2, 1)), True)

    def test_by_all_lean_pushes(self):
        for places in LAYOUTS.values():
            for there in points_about(places):
                lean = lean_by_solving(places, ((ratio(1), there),))
                if small(there) and lean:
                    bears = [leg for leg in range(len(places)) if any(row[leg] for row in lean)]
                    self.assertEqual(bearing_legs(places, there), tuple(bears))
                    self.assertEqual(bearing_legs(deep_list(places), list(there)), tuple(bears))
                    self.assertIs(one_way(places, there), len(lean) == 1)
                    alone = solve([column(places[leg]) for leg in bears], column(there))
                    self.assertIs(one_way(deep_list(places), list(there)), alone is not None)


class Errors(Case):

    def test_places(self):
        for places, index, what in NOT_LEGS:
            for call in (hull_of, sides_of):
                self.refuses(BadPlaces, (index, what), call, places)
            for call in (is_within, side_beyond, bearing_legs, one_way):
                self.refuses(BadPlaces, (index, what), call, places, place(0, 0))
                self.refuses(BadPlaces, (index, what), call, places, None)
        for thing in NOT_SEQUENCES:
            self.refuses(BadPlaces, (0, "many"), hull_of, thing)

    def test_place(self):
        for call in (is_within, side_beyond, bearing_legs, one_way):
            for thing in NOT_PLACES:
                self.refuses(BadPlace, (thing,), call, corners(), thing)

    def test_beyond(self):
        for places in LAYOUTS.values():
            for there in points_about(places):
                if small(there) and not in_hull(places, there):
                    side = side_beyond(places, there)
                    self.refuses(BeyondSide, (side,), bearing_legs, places, there)
                    self.refuses(BeyondSide, (side,), one_way, places, there)

    def test_nothing_is_changed_or_kept(self):
        places = deep_list(LAYOUTS["crossed"])
        sides = sides_of(places)
        points = corner_points(places)
        self.assertEqual(places, deep_list(LAYOUTS["crossed"]))
        places[0][0] = ratio(-5)
        places.pop()
        self.assertEqual(sides, sides_of(LAYOUTS["crossed"]))
        self.assertEqual(points, corner_points(LAYOUTS["crossed"]))


if __name__ == "__main__":
    unittest.main()
