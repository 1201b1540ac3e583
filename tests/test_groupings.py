"""Point 8.8: all ways to part legs into groups, and the best ones."""

import inspect
import unittest

from tests.grouped import partings
from tests.helper import Case, NOT_SEQUENCES, NOT_WHOLE, fraction, place, ratio, scales, small_layouts
from tests.test_found import ALONG, NOT_COUPLES
from wherelaid.errors import BadDirection, BadMany
from wherelaid.found import sure_along
from wherelaid.groupings import BestGroupings, all_groupings, best_groupings, groupings_along
from wherelaid.groups import Groups
from wherelaid.scales import Plain
from wherelaid.sums import spread_of

ZERO, ONE = ratio(0), ratio(1)


def groupings(legs, many):
    """All groupings in order: rows of group numbers, sorted, whose groups stand by their least legs."""
    rows = []
    for parts in partings(legs, many):
        if [min(part) for part in parts] == sorted(min(part) for part in parts):
            row = [next(number for number, part in enumerate(parts) if leg in part) for leg in range(legs)]
            rows.append((row, tuple(parts)))
    return [grouping for _, grouping in sorted(rows)]


def plain_of(places, *factors):
    return Plain(places, [ratio(factor) for factor in factors])


class All(Case):

    def test_samples(self):
        two = plain_of((place(0, 0), place(1, 0)), 1, 2)
        self.assertEqual(list(all_groupings(two, 2)), [((0,), (1,))])
        three = plain_of((place(0, 0), place(1, 0), place(0, 1)), 1, 2, 3)
        self.assertEqual(list(all_groupings(three, 2)), [((0, 1), (2,)), ((0, 2), (1,)), ((0,), (1, 2))])
        self.assertEqual(list(all_groupings(three, 3)), [((0,), (1,), (2,))])

    def test_all_in_order(self):
        self.assertTrue(inspect.isgeneratorfunction(all_groupings))
        for name, places in small_layouts():
            one = Plain(places, [ONE] * len(places))
            for many in (2, 3):
                if many <= len(places):
                    told = list(all_groupings(one, many))
                    self.assertEqual(told, groupings(len(places), many), name)
                    self.tuples(tuple(told))
        self.assertEqual([len(groupings(6, many)) for many in (2, 3)], [31, 90])

    def test_of_a_scale(self):
        for _, one in scales():
            self.assertEqual(list(all_groupings(one, 2)), groupings(len(one), 2))

    def test_refusals(self):
        one = plain_of((place(0, 0), place(1, 0)), 1, 2)
        calls = (lambda scale, many: list(all_groupings(scale, many)), best_groupings,
                 lambda scale, many: groupings_along(scale, many, None))
        for call in calls:
            for many in NOT_WHOLE + (0, 1, 3, 4, -2):
                self.refuses(BadMany, (many,), call, one, many)
        for call in calls[:2]:
            self.refuses(BadMany, (4,), call, Plain([place(k, k * k) for k in range(6)], [ONE] * 6), 4)
        for thing in NOT_COUPLES + NOT_SEQUENCES + ((ZERO, ZERO), [ZERO, ZERO]):
            self.refuses(BadDirection, (thing,), groupings_along, one, 2, thing)


class Best(Case):

    def test_samples(self):
        places = (place(0, 0), place(4, 0), place(4, 2), place(0, 2))
        told = best_groupings(plain_of(places, 1, 4, 1, 4), 2)
        self.assertEqual(told, BestGroupings(ONE, (((0, 2), (1, 3)),)))
        told = best_groupings(plain_of(places, 1, 2, 4, 8), 2)
        self.assertEqual(told, BestGroupings(ratio(2), (((0, 1), (2, 3)),)))
        told = best_groupings(plain_of(places, 1, 2, 4, 8), 3)
        self.assertEqual(told, BestGroupings(ratio(2), (((0, 1), (2,), (3,)), ((0,), (1, 2), (3,)), ((0,), (1,), (2, 3)))))
        self.assertEqual(best_groupings(plain_of(places, 3, 3, 3, 3), 2).groupings, tuple(groupings(4, 2)))

    def test_by_going_through_all(self):
        for number, (_, places) in enumerate(small_layouts()):
            factors = [ratio((1 + (k * (number + 2)) % 5, 2)[0]) for k in range(len(places))]
            one = Plain(places, factors)
            for many in (2, 3):
                if many <= len(one):
                    told = best_groupings(one, many)
                    self.assertIs(type(told), BestGroupings)
                    self.tuples((told.quotient, told.groupings))
                    quotients = {}
                    for grouping in groupings(len(one), many):
                        sizes = [[fraction(factors[leg]) for leg in group] for group in grouping]
                        quotients[grouping] = max(max(size) / min(size) for size in sizes)
                        self.assertEqual(fraction(spread_of(Groups(one, grouping)).quotient), quotients[grouping])
                    least = min(quotients.values())
                    self.assertEqual(fraction(told.quotient), least)
                    self.assertEqual(told.groupings, tuple(one for one in quotients if quotients[one] == least))

    def test_a_list_of_groupings_builds_groups(self):
        one = plain_of((place(0, 0), place(1, 0), place(0, 1)), 1, 2, 3)
        for grouping in best_groupings(one, 2).groupings:
            self.assertEqual(Groups(one, grouping).rows, grouping)


class AlongDirections(Case):

    def test_samples(self):
        places = (place(0, 0), place(4, 0), place(4, 2), place(0, 2))
        one = plain_of(places, 3, 5, 5, 3)
        self.assertEqual(groupings_along(one, 2, (ONE, ZERO)), (((0, 3), (1, 2)),))
        self.assertEqual(groupings_along(one, 2, (ZERO, ONE)), ())
        self.assertEqual(groupings_along(one, 3, [ratio(-2), ZERO]), (((0,), (1, 2), (3,)), ((0, 3), (1,), (2,))))
        row = plain_of((place(0, 0), place(2, 1), place(6, 3)), 1, 2, 3)
        self.assertEqual(groupings_along(row, 2, (ONE, ratio(-2))), tuple(groupings(3, 2)))

    def test_by_each_grouping(self):
        kinds = [0, 0]
        for name, places in small_layouts():
            factors = [ONE if k % 3 else ratio(2) for k in range(len(places))]
            for one in (Plain(places, factors), Plain(places, [ONE] * len(places))):
                for way in ALONG[:4]:
                    told = groupings_along(one, 2, way)
                    self.tuples(told)
                    want = [row for row in groupings(len(one), 2) if sure_along(Groups(one, row), way) is None]
                    self.assertEqual(told, tuple(want))
                    kinds[bool(told)] += 1
        self.assertGreater(min(kinds), 10, kinds)


class Equality(Case):

    def test_equality(self):
        self.told_apart(BestGroupings(ONE, (((0,), (1,)),)), {"quotient": ZERO, "groupings": ()})


if __name__ == "__main__":
    unittest.main()
