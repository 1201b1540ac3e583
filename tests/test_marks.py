"""Points 7.5 to 7.7: ties between marks, and what they make sure."""

import random
import unittest
from fractions import Fraction
from itertools import combinations

from tests.helper import Case, NOT_RATIOS, NOT_SEQUENCES, NOT_WHOLE, fraction, ratio
from wherelaid.errors import BadCount, BadMarks, BadSum, BadTie
from wherelaid.marks import (
    Trail, Unsure, _partings, blocks_of, check_ties, fewest_ties, needless_ties, sure_axles, sure_sum,
    trail_fault, unsure_fault,
)

ONE, ZERO = ratio(1), ratio(0)
# 0-2-5 and 1-3 hang together by chains only, 4 alone.
TIES = ((0, 2), (2, 5), (1, 3), (0, 5), (1, 3))


def rank(rows):
    """The rank of rows of numbers."""
    left = [[Fraction(part) for part in row] for row in rows]
    found = 0
    for at in range(len(left[0]) if left else 0):
        lead = next((row for row in left[found:] if row[at]), None)
        if lead is not None:
            left.remove(lead)
            left.insert(found, lead)
            for number in range(found + 1, len(left)):
                part = left[number][at] / lead[at]
                left[number] = [a - part * b for a, b in zip(left[number], lead)]
            found += 1
    return found


def between(count, low, high):
    return [int(low <= axle < high) for axle in range(count)]


def is_sure(count, ties, low, high):
    """Whether the ties' sums tell that between the marks, by the rank of the equations."""
    rows = [between(count, *tie) for tie in ties]
    return rank(rows) == rank([*rows, between(count, low, high)])


def some_ties(seed, rounds=60, most=8):
    lot = random.Random(seed)
    for number in range(rounds):
        count = lot.randint(1, 8)
        ties = [tuple(sorted(lot.sample(range(count + 1), 2))) for _ in range(lot.randint(0, most))]
        if number % 10 == 0:
            ties = [tuple(sorted(lot.sample(range(count + 1), 2))) for _ in range(24)]
        yield count, tuple(ties)


def pairs(count):
    return list(combinations(range(count + 1), 2))


class Ties(Case):

    def test_right_ones(self):
        self.assertEqual(self.takes_lists(check_ties, 5, TIES), TIES)
        self.assertEqual(check_ties(1, ()), ())
        self.assertEqual(check_ties(8, [[0, 8]] * 24), ((0, 8),) * 24)
        self.tuples(check_ties(5, [[0, 1], (4, 5)]))

    def test_refusals_by_all(self):
        ends = {check_ties: (), blocks_of: (), sure_axles: (), needless_ties: (), sure_sum: (None, None),
                trail_fault: (None, None, None), unsure_fault: (None, None, None), fewest_ties: (None,)}
        for call, rest in ends.items():
            for count in NOT_WHOLE + (0, 9, -1):
                self.refuses(BadCount, (count,), call, count, None, *rest)
            for thing in NOT_SEQUENCES + ((((0, 1),) * 25),):
                self.refuses(BadTie, (0, "many"), call, 3, thing, *rest)
            for tie in (None, 0, "01", (), (0,), (0, 1, 2), {0: 0, 1: 1}):
                self.refuses(BadTie, (1, "tie"), call, 3, ((0, 1), tie, None), *rest)
            for tie in ((0, 4), (-1, 2), (1, 1), (2, 1), (0, True), (False, 1), (None, 1), ("0", 1), (0, (1, 1))):
                self.refuses(BadTie, (1, "marks"), call, 3, ((0, 1), tie, None), *rest)

    def test_refused_marks(self):
        for call, rest in ((sure_sum, ()), (trail_fault, (None,)), (unsure_fault, (None,))):
            for low, high in ((0, 4), (-1, 2), (1, 1), (2, 1), (0, True), (False, 1), (None, None), ("0", 1), (0, None)):
                self.refuses(BadMarks, (low, high), call, 3, (), low, high, *rest)


class Sureness(Case):

    def test_samples(self):
        self.assertEqual(blocks_of(5, TIES), ((0, 2, 5), (1, 3), (4,)))
        self.assertEqual(sure_axles(5, TIES), ())
        self.assertEqual(blocks_of(3, ()), ((0,), (1,), (2,), (3,)))
        self.assertEqual(blocks_of(2, ((0, 2), (1, 2))), ((0, 1, 2),))
        self.assertEqual(sure_axles(2, ((0, 2), (1, 2))), (0, 1))
        self.assertEqual(sure_axles(4, ((0, 3), (1, 3), (2, 4))), (0,))
        self.assertEqual(blocks_of(8, ((6, 8), (4, 6), (2, 4), (0, 2), (1, 3), (3, 5), (5, 7))),
                         ((0, 2, 4, 6, 8), (1, 3, 5, 7)))

    def test_by_ranks(self):
        for count, ties in some_ties(1):
            blocks = self.takes_lists(blocks_of, count, ties)
            self.tuples(blocks)
            self.assertEqual(sorted(mark for block in blocks for mark in block), list(range(count + 1)))
            self.assertEqual(list(blocks), sorted(tuple(sorted(block)) for block in blocks))
            for low, high in pairs(count):
                together = any(low in block and high in block for block in blocks)
                self.assertEqual(together, is_sure(count, ties, low, high))
            self.assertEqual(self.takes_lists(sure_axles, count, ties),
                             tuple(axle for axle in range(count) if is_sure(count, ties, axle, axle + 1)))

    def shortest(self, ties, low, high):
        """The least number of links, by going on from all marks that are reached; None without."""
        reached = {low}
        for steps in range(10):
            if high in reached:
                return steps
            reached |= {b for tie in ties for a, b in (tie, tie[::-1]) if a in reached}
        return None

    def test_sure_sums(self):
        kinds = {}
        lot = random.Random(2)
        for count, ties in some_ties(3):
            sums = [ratio(lot.randint(0, 9)) for _ in range(count)]
            for low, high in lot.sample(pairs(count), min(6, len(pairs(count)))):
                told = self.takes_lists(sure_sum, count, ties, low, high)
                kinds[type(told)] = kinds.get(type(told), 0) + 1
                self.assertEqual(isinstance(told, Trail), is_sure(count, ties, low, high))
                if isinstance(told, Trail):
                    self.tuples(told.links)
                    self.assertEqual(len(told.links), self.shortest(ties, low, high))
                    at = low
                    total = 0
                    for number, sign in told.links:
                        self.assertIn(sign, (1, -1))
                        start, goal = ties[number][::sign]
                        self.assertEqual(start, at)
                        at = goal
                        total += sign * sum(fraction(one) for one in sums[slice(*ties[number])])
                    self.assertEqual(at, high)
                    self.assertEqual(total, sum(fraction(one) for one in sums[low:high]))
                    self.assertIsNone(trail_fault(count, ties, low, high, told))
                else:
                    self.assertIs(type(told), Unsure)
                    self.tuples((told.one, told.other))
                    for row in (told.one, told.other):
                        self.assertEqual(len(row), count)
                        self.assertTrue(all(weight[0] >= 0 for weight in row))
                    for tie in ties:
                        self.assertEqual(*[sum(fraction(one) for one in row[slice(*tie)])
                                           for row in (told.one, told.other)])
                    self.assertNotEqual(*[sum(fraction(one) for one in row[low:high])
                                          for row in (told.one, told.other)])
                    self.assertIsNone(unsure_fault(count, ties, low, high, told))
        self.assertTrue(min(kinds.values()) > 50, kinds)


class JudgingTrails(Case):

    def judge(self, links, low=0, high=5, ties=TIES):
        return trail_fault(5, ties, low, high, Trail(links))

    def test_links(self):
        for thing in NOT_SEQUENCES + (
                (None,), (0,), ((3,),), ((3, 1, 1),), ((5, 1),), ((-1, 1),), ((True, 1),), ((3, 0),), ((3, 2),), ((3, -2),),
                ((3, True),), ((3, None),), ((None, 1),), ((3, 1), 0), (("3", 1),), (3, 1), ((3, ONE),)):
            self.assertEqual(self.judge(thing), "links")
        for thing in (None, 0, True, "trail", (), [], ((3, 1),), Trail, Unsure((ONE,), (ONE,))):
            self.assertEqual(trail_fault(5, TIES, 0, 5, thing), "links")

    def test_walks(self):
        self.assertIsNone(self.judge(((3, 1),)))
        self.assertIsNone(self.judge([[3, 1]]))
        for links in ((), ((0, 1),), ((3, -1),), ((1, 1), (0, 1)), ((0, 1), (1, -1)), ((2, 1),), ((3, 1), (1, -1)),
                      ((0, -1), (1, 1)), ((3, 1), (2, 1)), ((0, 1), (2, 1), (1, 1))):
            self.assertEqual(self.judge(links), "walk")
        self.assertEqual(self.judge(((3, 1),), 1, 4), "walk")
        self.assertEqual(self.judge((), 1, 4), "walk")

    def test_fewest(self):
        for links in (((0, 1), (1, 1)), ((3, 1), (3, -1), (3, 1)), ((0, 1), (0, -1), (3, 1))):
            self.assertEqual(self.judge(links), "fewest")
        self.assertIsNone(self.judge(((2, 1), (0, -1)), 0, 2, TIES[1:]))
        self.assertIsNone(self.judge(((0, 1),), 0, 2))
        self.assertEqual(self.judge(((3, 1), (1, -1)), 0, 2), "fewest")
        self.assertIsNone(self.judge(((4, 1),), 1, 3))
        self.assertIsNone(self.judge(((2, 1),), 1, 3))


class JudgingUnsure(Case):

    def judge(self, one=(ONE,) * 5, other=(ratio(2), ZERO, ratio(2), ZERO, ONE), low=0, high=4):
        return unsure_fault(5, ((0, 2), (2, 4), (0, 4), (4, 5)), low, high, Unsure(one, other))

    def test_weights(self):
        bad = NOT_SEQUENCES + ((), (ONE,) * 4, (ONE,) * 6, (ONE,) * 4 + (ratio(-1),))
        for row in bad + tuple((ONE, size, ONE, ONE, ONE) for size in NOT_RATIOS):
            self.assertEqual(self.judge(one=row, other=()), "one")
            self.assertEqual(self.judge(other=row), "other")
        for thing in (None, 0, True, "unsure", (), [], ((ONE,) * 5,) * 2, Unsure, Trail(())):
            self.assertEqual(unsure_fault(5, (), 0, 5, thing), "one")

    def test_sums(self):
        self.assertIsNone(self.judge(low=0, high=1))
        self.assertIsNone(self.judge(low=1, high=4))
        self.assertIsNone(self.judge([ONE] * 5, [ratio(2), ZERO, ONE, ONE, ONE], low=1, high=3))
        self.assertEqual(self.judge(low=0, high=2), "sum")
        self.assertEqual(self.judge(low=0, high=4), "sum")
        self.assertEqual(self.judge(low=1, high=3), "sum")
        for other in ((ratio(2), ONE, ONE, ONE, ONE), (ONE, ONE, ONE, ONE, ZERO), (ZERO,) * 5,
                      (ONE, ONE, ONE, ratio("3/2"), ONE)):
            self.assertEqual(self.judge(other=other, low=0, high=1), "ties")
        self.assertEqual(self.judge(other=(ONE,) * 5, low=0, high=1), "sum")


class Needless(Case):

    def test_samples(self):
        self.assertEqual(needless_ties(5, TIES), (0, 1, 2, 3, 4))
        self.assertEqual(needless_ties(5, TIES[:3]), ())
        self.assertEqual(needless_ties(5, TIES[:4]), (0, 1, 3))
        self.assertEqual(needless_ties(5, ()), ())
        self.assertEqual(needless_ties(2, ((0, 1), (1, 2), (0, 2), (0, 1))), (0, 1, 2, 3))

    def test_by_leaving_out(self):
        for count, ties in some_ties(4):
            told = self.takes_lists(needless_ties, count, ties)
            self.tuples(told)
            for number, tie in enumerate(ties):
                others = ties[:number] + ties[number + 1:]
                self.assertEqual(number in told, is_sure(count, others, *tie))


class Fewest(Case):

    def check(self, count, ties, sums):
        told = self.takes_lists(fewest_ties, count, ties, sums)
        open_ones = [pair for pair in sums if not is_sure(count, ties, *pair)]
        if open_ones:
            self.assertIs(type(told), Unsure)
            self.assertIsNone(unsure_fault(count, ties, *open_ones[0], told))
            return told
        self.tuples(told)
        self.assertEqual(list(told), sorted(set(told)))
        chosen = [ties[number] for number in told]
        self.assertTrue(all(is_sure(count, chosen, *pair) for pair in sums))
        for fewer in combinations(ties, len(told) - 1):
            self.assertFalse(all(is_sure(count, fewer, *pair) for pair in sums))
        return told

    def test_samples(self):
        self.assertEqual(self.check(5, TIES, ((0, 5),)), (3,))
        self.assertEqual(self.check(5, TIES[:3], [(0, 5)]), (0, 1))
        self.assertEqual(len(self.check(5, TIES, ((0, 5), (1, 3)))), 2)
        self.assertIs(type(self.check(5, TIES, ((0, 5), (1, 4), (3, 4)))), Unsure)
        self.assertIs(type(self.check(5, (), ((0, 5),))), Unsure)

    def test_a_middle_that_serves_several_sums(self):
        # A star around the mark 4: three sums by four ties, where chains of their own take six.
        star = ((0, 4), (1, 4), (2, 4), (3, 4))
        self.assertEqual(self.check(4, star, ((0, 1), (0, 2), (0, 3))), (0, 1, 2, 3))
        self.assertEqual(len(self.check(4, star, ((0, 1), (2, 3)))), 4)
        longer = star + ((0, 1), (2, 3))
        self.assertEqual(self.check(4, longer, ((0, 1), (2, 3))), (4, 5))
        # Each sum alone would take the mark 4 or 8, both together the mark 8 alone.
        self.assertEqual(self.check(8, ((0, 4), (1, 4), (0, 8), (1, 8), (2, 8)), ((0, 1), (0, 2))), (2, 3, 4))
        # Two sums on one long way, and one apart.
        line = tuple((k, k + 1) for k in range(8))
        self.assertEqual(len(self.check(8, line, ((0, 3), (2, 5), (7, 8)))), 6)
        self.assertEqual(len(self.check(8, line + ((0, 5),), ((0, 5), (2, 4), (7, 8)))), 4)
        self.assertEqual(len(self.check(8, line + ((0, 3), (3, 5)), ((0, 5), (0, 3), (3, 5)))), 2)

    def test_all_partings(self):
        a, b, c = (0, 1), (0, 2), (1, 3)
        self.assertEqual(_partings([]), [[]])
        self.assertEqual(_partings([a]), [[[a]]])
        self.assertEqual(_partings([a, b]), [[[a], [b]], [[a, b]]])
        self.assertEqual(_partings([a, b, c]), [
            [[a], [b], [c]], [[a, b], [c]], [[a, c], [b]], [[a], [b, c]], [[a, b, c]]])

    def test_random_ties(self):
        lot = random.Random(5)
        kinds = {}
        for count, ties in some_ties(6, 90, 10):
            sums = [tuple(sorted(lot.sample(range(count + 1), 2))) for _ in range(lot.randint(1, 3))]
            if len(ties) <= 10:
                told = self.check(count, ties, sums)
                kind = len(told) if isinstance(told, tuple) else None
                kinds[kind] = kinds.get(kind, 0) + 1
            else:
                told = fewest_ties(count, ties, sums)
        self.assertTrue({None, 1, 2, 3, 4} <= set(kinds), kinds)

    def test_equal_ties_and_24_of_them(self):
        ties = ((0, 1),) * 12 + ((1, 2),) * 12
        told = fewest_ties(2, ties, ((0, 2),))
        self.assertEqual([ties[number] for number in told], [(0, 1), (1, 2)])

    def test_refused_sums(self):
        for thing in NOT_SEQUENCES + ((), ((0, 1),) * 4):
            self.refuses(BadSum, (0, "many"), fewest_ties, 3, (), thing)
        for pair in (None, 0, "01", (), (0,), (0, 1, 2), {0: 0, 1: 1}):
            self.refuses(BadSum, (1, "sum"), fewest_ties, 3, (), ((0, 1), pair, None))
        for pair in ((0, 4), (-1, 2), (1, 1), (2, 1), (0, True), (None, 1), ("0", 1)):
            self.refuses(BadSum, (1, "marks"), fewest_ties, 3, ((0, 1),), [(0, 1), pair])


class Equality(Case):

    def test_equality(self):
        self.told_apart(Trail(((0, 1),)), {"links": ()})
        self.told_apart(Unsure((ONE,), (ZERO,)), {"one": (ZERO,), "other": (ONE,)})


if __name__ == "__main__":
    unittest.main()
