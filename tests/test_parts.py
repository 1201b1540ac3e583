"""What the modules share with each other and the interface does not list."""

import random
import unittest
from fractions import Fraction
from itertools import combinations

from tests.helper import Case, LAYOUTS, fraction, height, place, plus_rows, ratio
from wherelaid.cones import shares_or_bar
from wherelaid.diagonals import diagonal_of
from wherelaid.linear import amounts_or_way, determinant_of
from wherelaid.lots import lots_of
from wherelaid.planes import is_plane, plane_through
from wherelaid.ratios import ascending, coprime_of
from wherelaid.shares import dot_of, shares_at, way_to


class Rows(Case):

    def test_ascending(self):
        rows = [("2/3", 1), ("1/2", 9), ("3/4", -1), (0, 0), ("-7/2", 3), ("1/2", "-9/7"), (0, 0), ("2/3", 1)]
        given = [tuple(ratio(part) for part in row) for row in rows]
        want = sorted(set(tuple(Fraction(part) for part in row) for row in rows))
        for told in (given, tuple(given), [list(row) for row in given], given[::-1]):
            found = ascending(told)
            self.assertEqual([tuple(fraction(part) for part in row) for row in found], want)
            self.tuples(tuple(found))
        self.assertEqual(ascending([]), [])
        self.assertEqual(ascending([(ratio(4),)]), [(ratio(4),)])

    def test_coprime(self):
        for row, want in (((2, 4), (1, 2)), (("1/2", "-1/3"), (3, -2)), ((0, -5), (0, -1)),
                          ((0, "2/3", 0, "4/9"), (0, 3, 0, 2)), ((-6, -9), (-2, -3)), ((1,), (1,))):
            self.assertEqual(coprime_of([ratio(part) for part in row]), want)

    def test_lots(self):
        for many in range(7):
            for size in range(8):
                self.assertEqual(lots_of(many, size), list(combinations(range(many), size)))


def determinant(rows):
    """The determinant of numbers, by taking rows from each other."""
    left = [[Fraction(part) for part in row] for row in rows]
    size = Fraction(1)
    for at in range(len(left)):
        lead = next((row for row in left[at:] if row[at]), None)
        if lead is None:
            return 0
        if lead is not left[at]:
            size = -size
            where = at + [row is lead for row in left[at:]].index(True)
            left[at], left[where] = left[where], left[at]
        size *= lead[at]
        for number in range(at + 1, len(left)):
            part = left[number][at] / lead[at]
            left[number] = [one - part * two for one, two in zip(left[number], lead)]
    return size


def product_of(rows, others):
    return [[sum(a * b for a, b in zip(row, column)) for column in zip(*others)] for row in rows]


class Diagonals(Case):

    def test_mixes_and_ways(self):
        lot = random.Random(3)
        for _ in range(150):
            many, unknowns = lot.randint(1, 5), lot.randint(1, 5)
            rows = [[lot.choice((0, 0, 2, 3, -4, 6, 9, -15, 10)) for _ in range(unknowns)] for _ in range(many)]
            before = [list(row) for row in rows]
            pivots, mixes, ways = diagonal_of(rows, unknowns)
            self.assertEqual(rows, before)
            want = [[pivots[k] if j == k else 0 for j in range(unknowns)] for k in range(many)]
            self.assertEqual(product_of(product_of(mixes, rows), ways), want)
            # Both can be undone in whole numbers.
            self.assertIn(determinant(mixes), (1, -1))
            self.assertIn(determinant(ways), (1, -1))
            self.assertEqual(len(pivots), many)

    def test_no_unknowns(self):
        self.assertEqual(diagonal_of([[], []], 0), ([0, 0], [[1, 0], [0, 1]], []))


class RowsOfRatios(Case):

    def rows(self, lot, many, width):
        return [tuple(ratio(Fraction(lot.choice((0, 0, 1, 2, -1, -3)), lot.choice((1, 1, 2)))) for _ in range(width))
                for _ in range(many)]

    def test_amounts_or_way(self):
        lot = random.Random(8)
        kinds = [0, 0]
        for _ in range(200):
            width = lot.randint(1, 6)
            rows = self.rows(lot, lot.randint(0, 6), width)
            goal = self.rows(lot, 1, width)[0]
            if rows and lot.random() < 0.4:
                goal = tuple(ratio(sum((k - 2) * fraction(row[at]) for k, row in enumerate(rows)))
                             for at in range(width))
            amounts, way = amounts_or_way(rows, goal)
            kinds[amounts is None] += 1
            if way is None:
                self.tuples(amounts)
                for at in range(width):
                    self.assertEqual(plus_rows(amounts, [row[at] for row in rows]), fraction(goal[at]))
            else:
                self.assertIsNone(amounts)
                self.tuples(way)
                self.assertEqual([plus_rows(way, row) for row in rows], [0] * len(rows))
                self.assertNotEqual(plus_rows(way, goal), 0)
        self.assertTrue(min(kinds) > 30)

    def test_shares_or_bar(self):
        lot = random.Random(9)
        kinds = [0, 0]
        for _ in range(300):
            width = lot.randint(0, 5)
            columns = self.rows(lot, lot.randint(1, 7), width)
            goal = self.rows(lot, 1, width)[0]
            shares, bar = shares_or_bar(columns, goal)
            kinds[shares is None] += 1
            if bar is None:
                self.tuples(shares)
                self.assertTrue(all(share[0] >= 0 for share in shares))
                self.assertEqual(len(shares), len(columns))
                for at in range(width):
                    self.assertEqual(plus_rows(shares, [column[at] for column in columns]), fraction(goal[at]))
            else:
                self.assertIsNone(shares)
                self.assertEqual(len(bar), width)
                self.assertTrue(all(plus_rows(bar, column) >= 0 for column in columns))
                self.assertLess(plus_rows(bar, goal), 0)
        self.assertTrue(min(kinds) > 50)

    def test_determinants(self):
        lot = random.Random(10)
        for _ in range(200):
            many = lot.randint(0, 6)
            rows = [[lot.choice((0, 0, 1, 2, -3, 7)) for _ in range(many)] for _ in range(many)]
            self.assertEqual(determinant_of(rows), determinant(rows))


class Shares(Case):

    def test_ways(self):
        self.assertEqual(way_to(place(1, 2), place("3/2", -1)), place("1/2", -3))
        self.assertEqual(dot_of(place(2, 3), place("1/2", -1)), ratio(-2))

    def test_shares_make_up_the_point(self):
        points = (place(0, 0), place(2, 1), place("-1/3", "7/2"), place(6, 3))
        for places in LAYOUTS.values():
            for size in (1, 2, 3):
                for corners in combinations(places, size):
                    if size == 3 and self.cross(*corners) == 0:
                        continue
                    for point in points + corners:
                        self.judge(corners, point, shares_at(list(corners), point))

    def cross(self, one, two, three):
        (ax, ay), (bx, by), (cx, cy) = [[fraction(part) for part in there] for there in (one, two, three)]
        return (bx - ax) * (cy - ay) - (by - ay) * (cx - ax)

    def judge(self, corners, point, shares):
        if shares is None:
            self.assertTrue(len(corners) < 3 and point not in corners)
            self.assertTrue(len(corners) == 1 or self.cross(*corners, point))
            return
        sizes = [fraction(share) for share in shares]
        self.assertEqual(sum(sizes), 1)
        for axis in (0, 1):
            mean = sum(size * fraction(corner[axis]) for size, corner in zip(sizes, corners))
            self.assertEqual(mean, fraction(point[axis]))


class Planes(Case):

    def test_heights(self):
        for places in LAYOUTS.values():
            heights = [ratio(Fraction(k * k, 3) - 1) for k in range(3)]
            for corners in combinations(places, 2):
                plane = plane_through(corners, heights[:2])
                self.assertTrue(is_plane(plane))
                for corner, size in zip(corners, heights):
                    self.assertEqual(height(plane, corner), fraction(size))
                # It rises along the row only.
                across = [fraction(b) - fraction(a) for a, b in zip(*corners)]
                self.assertEqual(fraction(plane[1]) * across[1], fraction(plane[2]) * across[0])
            for corners in combinations(places, 3):
                if Shares.cross(self, *corners):
                    plane = plane_through(corners, heights)
                    for corner, size in zip(corners, heights):
                        self.assertEqual(height(plane, corner), fraction(size))

    def test_is_plane(self):
        one = (ratio(1), ratio("-1/2"), ratio(10 ** 200))
        self.assertIs(is_plane(one), True)
        for thing in (None, 0, (), list(one), one[:2], one + one[:1], (1, 2, 3), (None,) * 3,
                      one[:2] + ((2, 4),), one[:2] + ([1, 2],), one[:2] + ((1, True),), "abc"):
            self.assertIs(is_plane(thing), False)


if __name__ == "__main__":
    unittest.main()
