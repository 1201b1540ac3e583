"""What the modules share with each other and the interface does not list."""

import random
import unittest
from fractions import Fraction
from itertools import combinations

from tests.helper import Case, LAYOUTS, fraction, height, place, ratio
from wherelaid.diagonals import diagonal_of
from wherelaid.lots import lots_of
from wherelaid.planes import is_plane, plane_through
from wherelaid.ratios import ascending, coprime_of
from wherelaid.shares import dot_of, shares_at, way_to


class Rows(Case):

    def test_ascending(self):
        rows = [("2/3", 1), ("1/2", 9), ("3/4", -1), (0, 0), ("-7/2", 3), ("1/2", "-9/7"), (0, 0), ("2/3", 1)]
        given = [tuple(ratio(part) for part in row) for row in rows]
        want = sorted(set(tuple(Fraction(part) for part in row) for row in rows))
        for told in (given, tuple(given), [list(row) for row in given], given[::-1]):
            found = ascending(told)
            self.assertEqual([tuple(fraction(part) for part in row) for row in found], want)
            self.tuples(tuple(found))
        self.assertEqual(ascending([]), [])
        self.assertEqual(ascending([(ratio(4),)]), [(ratio(4),)])

    def test_coprime(self):
        for row, want in (((2, 4), (1, 2)), (("1/2", "-1/3"), (3, -2)), ((0, -5), (0, -1)),
                          ((0, "2/3", 0, "4/9"), (0, 3, 0, 2)), ((-6, -9), (-2, -3)), ((1,), (1,))):
            self.assertEqual(coprime_of([ratio(part) for part in row]), want)

    def test_lots(self):
        for many in range(7):
            for size in range(8):
                self.assertEqual(lots_of(many, size), list(combinations(range(many), size)))


def determinant(rows):
    if not rows:
        return 1
    return sum((-1) ** at * rows[0][at] * determinant([row[:at] + row[at + 1:] for row in rows[1:]])
               for at in range(len(rows)))


def product_of(rows, others):
    return [[sum(a * b for a, b in zip(row, column)) for column in zip(*others)] for row in rows]


class Diagonals(Case):

    def test_mixes_and_ways(self):
        lot = random.Random(3)
        for _ in range(150):
            many, unknowns = lot.randint(1, 5), lot.randint(1, 5)
            rows = [[lot.choice((0, 0, 2, 3, -4, 6, 9, -15, 10)) for _ in range(unknowns)] for _ in range(many)]
            before = [list(row) for row in rows]
            pivots, mixes, ways = diagonal_of(rows, unknowns)
            self.assertEqual(rows, before)
            want = [[pivots[k] if j == k else 0 for j in range(unknowns)] for k in range(many)]
            self.assertEqual(product_of(product_of(mixes, rows), ways), want)
            # Both can be undone in whole numbers.
            self.assertIn(determinant(mixes), (1, -1))
            self.assertIn(determinant(ways), (1, -1))
            self.assertEqual(len(pivots), many)

    def test_no_unknowns(self):
        self.assertEqual(diagonal_of([[], []], 0), ([0, 0], [[1, 0], [0, 1]], []))


class Shares(Case):

    def test_ways(self):
        self.assertEqual(way_to(place(1, 2), place("3/2", -1)), place("1/2", -3))
        self.assertEqual(dot_of(place(2, 3), place("1/2", -1)), ratio(-2))

    def test_shares_make_up_the_point(self):
        points = (place(0, 0), place(2, 1), place("-1/3", "7/2"), place(6, 3))
        for places in LAYOUTS.values():
            for size in (1, 2, 3):
                for corners in combinations(places, size):
                    if size == 3 and self.cross(*corners) == 0:
                        continue
                    for point in points + corners:
                        self.judge(corners, point, shares_at(list(corners), point))

    def cross(self, one, two, three):
        (ax, ay), (bx, by), (cx, cy) = [[fraction(part) for part in there] for there in (one, two, three)]
        return (bx - ax) * (cy - ay) - (by - ay) * (cx - ax)

    def judge(self, corners, point, shares):
        if shares is None:
            self.assertTrue(len(corners) < 3 and point not in corners)
            self.assertTrue(len(corners) == 1 or self.cross(*corners, point))
            return
        sizes = [fraction(share) for share in shares]
        self.assertEqual(sum(sizes), 1)
        for axis in (0, 1):
            mean = sum(size * fraction(corner[axis]) for size, corner in zip(sizes, corners))
            self.assertEqual(mean, fraction(point[axis]))


class Planes(Case):

    def test_heights(self):
        for places in LAYOUTS.values():
            heights = [ratio(Fraction(k * k, 3) - 1) for k in range(3)]
            for corners in combinations(places, 2):
                plane = plane_through(corners, heights[:2])
                self.assertTrue(is_plane(plane))
                for corner, size in zip(corners, heights):
                    self.assertEqual(height(plane, corner), fraction(size))
                # It rises along the row only.
                across = [fraction(b) - fraction(a) for a, b in zip(*corners)]
                self.assertEqual(fraction(plane[1]) * across[1], fraction(plane[2]) * across[0])
            for corners in combinations(places, 3):
                if Shares.cross(self, *corners):
                    plane = plane_through(corners, heights)
                    for corner, size in zip(corners, heights):
                        self.assertEqual(height(plane, corner), fraction(size))

    def test_is_plane(self):
        one = (ratio(1), ratio("-1/2"), ratio(10 ** 200))
        self.assertIs(is_plane(one), True)
        for thing in (None, 0, (), list(one), one[:2], one + one[:1], (1, 2, 3), (None,) * 3,
                      one[:2] + ((2, 4),), one[:2] + ([1, 2],), one[:2] + ((1, True),), "abc"):
            self.assertIs(is_plane(thing), False)


if __name__ == "__main__":
    unittest.main()
