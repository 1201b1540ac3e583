"""Points 3.1 to 3.4: swaps, their basis, least swaps, free legs and splitting."""

import unittest
from fractions import Fraction
from itertools import combinations, product
from math import gcd

from tests.helper import (
    Case, LAYOUTS, NOT_SEQUENCES, ROWS, column, corners, deep_list, fraction, place, ratio,
)
from wherelaid.errors import BadPlaces, NoSwap
from wherelaid.swaps import free_legs, is_swap, least_swaps, plain_swaps, split_swap

NOT_LEGS = (
    (None, 0, "many"), ([], 0, "many"), ([place(k, 0) for k in range(7)], 0, "many"),
    ([None, place(0, 0)], 0, "place"), ([place(0, 0), place(1, 0), place(0, 0)], 2, "twice"),
)
# Layouts whose swaps have small numbers, so that all small numbers can be tried.
TRIED = {"three in a row": 3, "square": 2, "one on a side": 2, "crossed": 2, "grid": 2,
         "row and one": 4, "triangle": 4, "two": 5, "close row": 3}


def balances(places, numbers):
    """Whether the numbers are a swap, by the words of the document."""
    sums = [sum(number * part for number, part in zip(numbers, parts))
            for parts in zip(*[column(there) for there in places])]
    return any(numbers) and not any(sums)


def is_plain(numbers):
    return gcd(*numbers) == 1 and [number for number in numbers if number][0] > 0


def legs_of(numbers):
    return [leg for leg, number in enumerate(numbers) if number]


def cross(one, two, three):
    (ax, ay), (bx, by), (cx, cy) = [[fraction(part) for part in there] for there in (one, two, three)]
    return (bx - ax) * (cy - ay) - (by - ay) * (cx - ax)


def swaps_of(places):
    """Some swaps of the places: sums of the basis times small numbers."""
    basis = plain_swaps(places)
    for sizes in product((0, 1, -1, 2, -3), repeat=len(basis)):
        if len(basis) == 4 and 2 in sizes:
            continue
        row = [sum(size * swap[leg] for size, swap in zip(sizes, basis)) for leg in range(len(places))]
        if any(row):
            yield row


class Judge(Case):

    def test_right(self):
        for numbers in ((1, -1, 1, -1), [1, -1, 1, -1], (-3, 3, -3, 3), (10 ** 60, -10 ** 60) * 2):
            self.assertIs(is_swap(corners(), numbers), True)
            self.assertIs(is_swap(deep_list(corners()), numbers), True)

    def test_wrong(self):
        for thing in NOT_SEQUENCES + (
                (), (0, 0, 0, 0), (1, -1, 1), (1, -1, 1, -1, 0), (1, -1, -1, 1), (1, 0, 0, 0),
                (1, 1, -1, -1), (1, 1, 1, 1), (2, -1, 1, -1), (True, -1, True, -1), (1.0, -1, 1, -1),
                (1, -1, 1, None), ("1", -1, 1, -1), (ratio(1), ratio(-1), ratio(1), ratio(-1)),
                (False,) * 4, ((1,), -1, 1, -1)):
            self.assertIs(is_swap(corners(), thing), False)

    def test_one_sum_alone(self):
        # Only the sum, only that of x, only that of y is not 0.
        row = (place(0, 0), place(1, 1), place(2, 2), place(-1, 5))
        self.assertIs(is_swap(row, (1, -2, 1, 0)), True)
        self.assertIs(is_swap(row, (2, -2, 1, 0)), False)
        self.assertIs(is_swap((place(0, 0), place(1, 1), place(3, 2)), (1, -2, 1)), False)
        self.assertIs(is_swap((place(0, 0), place(1, 1), place(2, 3)), (1, -2, 1)), False)
        # Without the sum of the numbers both others are 0.
        self.assertIs(is_swap((place(0, 0), place(1, 1), place(-1, -1)), (1, 1, 1)), False)
        self.assertIs(is_swap((place(0, 0), place(1, 1), place(-1, -1)), (-2, 1, 1)), True)

    def test_by_the_document(self):
        for name, most in TRIED.items():
            places = LAYOUTS[name]
            if len(places) < 6:
                for numbers in product(range(-2, 3), repeat=len(places)):
                    self.assertIs(is_swap(places, numbers), balances(places, numbers))

    def test_errors(self):
        for places, index, what in NOT_LEGS:
            for call in (is_swap, split_swap):
                self.refuses(BadPlaces, (index, what), call, places, (1, -1, 1, -1))
                self.refuses(BadPlaces, (index, what), call, places, None)
            for call in (plain_swaps, least_swaps, free_legs):
                self.refuses(BadPlaces, (index, what), call, places)


class Basis(Case):

    def test_samples(self):
        self.assertEqual(plain_swaps(corners()), ((1, -1, 1, -1),))
        self.assertEqual(plain_swaps(LAYOUTS["triangle"]), ())
        self.assertEqual(plain_swaps(LAYOUTS["two"]), ())
        self.assertEqual(plain_swaps(LAYOUTS["three in a row"]), ((3, -2, -1),))
        self.assertEqual(plain_swaps(LAYOUTS["one on a side"]), ((0, 1, 1, -2),))
        self.assertEqual(plain_swaps(LAYOUTS["grid"]), (
            (1, 0, -1, 0, -2, 2), (0, 1, -1, 0, -1, 1), (0, 0, 0, 1, -2, 1)))

    def test_by_the_document(self):
        for name, places in LAYOUTS.items():
            for legs in (places, deep_list(places)):
                basis = plain_swaps(legs)
                self.tuples(basis)
                self.assertEqual(len(basis), len(places) - (2 if name in ROWS else 3))
                leading = [legs_of(swap)[0] for swap in basis]
                self.assertEqual(leading, sorted(set(leading)))
                for swap, lead in zip(basis, leading):
                    self.assertEqual(len(swap), len(places))
                    self.assertTrue(balances(places, swap))
                    self.assertTrue(is_plain(swap))
                    for other in leading:
                        self.assertTrue(other == lead or swap[other] == 0)

    def test_each_swap_is_a_sum(self):
        for name, most in TRIED.items():
            places = LAYOUTS[name]
            basis = plain_swaps(places)
            for numbers in product(range(-most, most + 1), repeat=len(places)):
                if sum(numbers) == 0 and balances(places, numbers):
                    row = [Fraction(0)] * len(places)
                    for swap in basis:
                        lead = legs_of(swap)[0]
                        size = Fraction(numbers[lead], swap[lead])
                        row = [one + size * two for one, two in zip(row, swap)]
                    self.assertEqual(row, list(numbers))


class Least(Case):

    def test_samples(self):
        self.assertEqual(least_swaps(corners()), ((1, -1, 1, -1),))
        self.assertEqual(least_swaps(LAYOUTS["triangle"]), ())
        self.assertEqual(least_swaps(LAYOUTS["crossed"]), (
            (0, 0, 1, 1, -2), (1, 1, -1, -1, 0), (1, 1, 0, 0, -2)))
        self.assertEqual(least_swaps(LAYOUTS["three in a row"]), ((3, -2, -1),))

    def test_by_the_document(self):
        for places in LAYOUTS.values():
            found = least_swaps(deep_list(places))
            self.tuples(found)
            self.assertEqual(list(found), sorted(set(found)))
            lots = [lot for lot in combinations(range(len(places)), 3)
                    if cross(*[places[leg] for leg in lot]) == 0]
            for lot in combinations(range(len(places)), 4):
                if all(cross(*[places[leg] for leg in three]) for three in combinations(lot, 3)):
                    lots.append(lot)
            self.assertEqual(sorted(tuple(legs_of(swap)) for swap in found), sorted(lots))
            for swap in found:
                self.assertTrue(balances(places, swap))
                self.assertTrue(is_plain(swap))

    def test_by_trying(self):
        for name, most in TRIED.items():
            places = LAYOUTS[name]
            tried = [numbers for numbers in product(range(-most, most + 1), repeat=len(places))
                     if sum(numbers) == 0 and balances(places, numbers) and is_plain(numbers)]
            lots = [set(legs_of(numbers)) for numbers in tried]
            least = [numbers for numbers, lot in zip(tried, lots)
                     if not any(other < lot for other in lots)]
            self.assertEqual(list(least_swaps(places)), sorted(least))


class Free(Case):

    def test_samples(self):
        self.assertEqual(free_legs(LAYOUTS["triangle"]), (0, 1, 2))
        self.assertEqual(free_legs(LAYOUTS["two"]), (0, 1))
        self.assertEqual(free_legs(LAYOUTS["one on a side"]), (0,))
        self.assertEqual(free_legs(LAYOUTS["row and one"]), (4,))
        self.assertEqual(free_legs(corners()), ())

    def test_by_all_least_swaps(self):
        for places in LAYOUTS.values():
            swaps = least_swaps(places)
            want = [leg for leg in range(len(places)) if not any(swap[leg] for swap in swaps)]
            self.assertEqual(free_legs(deep_list(places)), tuple(want))


class Split(Case):

    def judge(self, places, numbers, split):
        self.tuples(split)
        self.assertLessEqual(len(split), len(places) - 2)
        swaps = [swap for _, swap in split]
        self.assertEqual(len(set(swaps)), len(swaps))
        known = least_swaps(places)
        for share, swap in split:
            self.assertIn(swap, known)
            self.assertNotEqual(share[0], 0)
        for leg, number in enumerate(numbers):
            parts = [fraction(share) * swap[leg] for share, swap in split]
            self.assertEqual(sum(parts), number)
            self.assertTrue(all(part == 0 or part * number > 0 for part in parts))

    def test_by_the_document(self):
        for places in LAYOUTS.values():
            for numbers in swaps_of(places):
                self.judge(places, numbers, split_swap(places, numbers))
                self.judge(places, numbers, split_swap(deep_list(places), tuple(numbers)))

    def test_least_swaps_alone(self):
        for places in LAYOUTS.values():
            for swap in least_swaps(places):
                self.assertEqual(split_swap(places, swap), ((ratio(1), swap),))
                self.assertEqual(split_swap(places, [-3 * number for number in swap]),
                                 ((ratio(-3), swap),))

    def test_no_swaps(self):
        for thing in (None, True, "1", (), (0, 0, 0, 0), (1, -1, 1), [1, -1, -1, 1], (True, -1, True, -1),
                      {1: 2}, (1, -1, 1, -1.0)):
            self.refuses(NoSwap, (thing,), split_swap, corners(), thing)

    def test_nothing_is_changed(self):
        numbers = [2, -2, 2, -2]
        made = split_swap(corners(), numbers)
        self.assertEqual(numbers, [2, -2, 2, -2])
        numbers[0] = 9
        self.assertEqual(made, ((ratio(2), (1, -1, 1, -1)),))


if __name__ == "__main__":
    unittest.main()
