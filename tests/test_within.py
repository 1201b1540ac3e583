"""Point 4.12: castings judged for all sizes within stretches."""

import random
import unittest
from fractions import Fraction
from itertools import product

from tests.helper import (
    Case, NOT_RATIOS, castings, corners, exponents, factors_with, fraction, is_swap_by_words,
    levers, place, ratio, scales,
)
from tests.test_stretches import between, ends_within, some_stretches
from wherelaid.always import FailsEven, FailsSettled, always_even, always_settled
from wherelaid.castings import Casting, scale_at
from wherelaid.errors import BadError, BadSize, BadStretches
from wherelaid.even import outside_error
from wherelaid.scales import Lever, Scale
from wherelaid.swaps import plain_swaps
from wherelaid.within import BeyondAlways, even_within, outside_always, settled_within


def seats(*sizes, letters="    "):
    """Four legs on the beam alone, with these seats, of which some bear letters."""
    made = Scale(levers(), [(0, ratio(size)) for size in sizes], corners())
    return Casting(made, [(("seat", leg), one) for leg, one in enumerate(letters) if one != " "])


def stretch(letter, low, high):
    return (letter, ratio(low), ratio(high))


def all_steps(stretches, many):
    """All values of the form low + (high - low) * k / many, as dicts of Fractions."""
    rows = [[fraction(low) + (fraction(high) - fraction(low)) * Fraction(k, many) for k in range(many)]
            for _, low, high in stretches]
    for chosen in product(*rows):
        yield {row[0]: size for row, size in zip(stretches, chosen)}


class EvenWithin(Case):

    def check(self, one, stretches):
        told = even_within(one, stretches)
        if told is None:
            for values in [*list(ends_within(stretches))[:64], *between(stretches, 1)]:
                self.assertEqual(len(set(factors_with(one, values))), 1)
        else:
            self.assertIs(type(told), FailsEven)
            self.assertEqual([letter for letter, _ in told.at_values], list(one.letters))
            self.assertTrue(all(size in row[1:] for (_, size), row in zip(told.at_values, sorted(stretches))))
            factors = factors_with(one, dict(told.at_values))
            self.assertNotEqual(factors[told.leg], factors[told.other])
        return told

    def test_samples(self):
        one = seats(1, 2, 2, 2, letters="a   ")
        self.assertIsNone(self.check(one, [stretch("a", 2, 2)]))
        for low, high in ((1, 2), (2, 3), (1, 3), (1, 1)):
            self.assertIsNotNone(self.check(one, [stretch("a", low, high)]))
        pair = seats(1, 1, 1, 1, letters="abab")
        self.assertIsNone(self.check(pair, [stretch("b", 3, 3), stretch("a", 3, 3)]))
        self.assertIsNotNone(self.check(pair, [stretch("b", 3, 3), stretch("a", 3, 4)]))
        self.assertIsNotNone(self.check(pair, [stretch("b", 2, 3), stretch("a", 2, 3)]))
        self.assertIsNone(self.check(seats(5, 5, 5, 5), []))
        self.assertIsNotNone(self.check(seats(5, 5, 5, 4), []))

    def test_all_castings(self):
        for name, one in castings(41, 15):
            told = self.check(one, some_stretches(one, name))
            if always_even(one) is None:
                self.assertIsNone(told)
            wide = tuple((letter, ratio(1), ratio(2)) for letter in one.letters)
            if len({tuple(exponents(one, leg)[0].items()) for leg in range(len(one.scale))}) > 1:
                self.assertIsNotNone(self.check(one, wide))


class SettledWithin(Case):

    def check(self, one, stretches):
        told = settled_within(one, stretches)
        many = len(one.scale)
        swaps = plain_swaps(one.scale.places)
        if told is None:
            for values in [*list(ends_within(stretches))[:64], *between(stretches, 2),
                           *list(all_steps(stretches, many))[:200]]:
                factors = factors_with(one, values)
                self.assertTrue(all(sum(a * b for a, b in zip(swap, factors)) == 0 for swap in swaps))
        else:
            self.assertIs(type(told), FailsSettled)
            self.assertEqual([letter for letter, _ in told.at_values], list(one.letters))
            self.tuples(tuple(size for _, size in told.at_values))
            for (_, size), (_, low, high) in zip(told.at_values, sorted(stretches)):
                step = fraction(size) - fraction(low)
                way = fraction(high) - fraction(low)
                self.assertIn(step, [way * Fraction(k, many) for k in range(many)])
            self.assertTrue(is_swap_by_words(one.scale.places, told.swap))
            factors = factors_with(one, dict(told.at_values))
            self.assertNotEqual(sum(a * b for a, b in zip(told.swap, factors)), 0)
        return told

    def test_letters_without_a_choice(self):
        # The factors are a, b, c, d with the swap (1, -1, 1, -1).
        one = seats(1, 1, 1, 1, letters="abcd")
        rows = [stretch(letter, 2, 2) for letter in "abcd"]
        self.assertIsNone(self.check(one, rows))
        self.assertIsNotNone(self.check(one, rows[:3] + [stretch("d", 2, 3)]))
        self.assertIsNotNone(self.check(one, rows[:3] + [stretch("d", 3, 3)]))
        self.assertIsNone(self.check(seats(1, 1, 1, 1, letters="abba"), [stretch("a", 1, 2), stretch("b", 5, 9)]))

    def test_fixed_letters_come_first(self):
        # The sum is (a - 1) * (b - 1): with one of both at 1 it is 0, whatever the other one is.
        one = ratio(1)
        made = Scale([Lever(one), Lever(one, 0, one)], [(1, one), (0, one), (0, one), (0, one)], corners())
        casting = Casting(made, [(("inward", 1), "a"), (("seat", 0), "b"), (("seat", 1), "a"), (("seat", 3), "b")])
        for low, high, low_b, high_b, holds in (
                (1, 1, 1, 9, True), (1, 9, 1, 1, True), (1, 9, 1, 9, False), (2, 2, 1, 1, True),
                (2, 2, 1, 2, False), (1, 2, 2, 2, False), (2, 2, 2, 2, False), (1, 1, 1, 1, True)):
            told = self.check(casting, [stretch("b", low_b, high_b), stretch("a", low, high)])
            self.assertEqual(told is None, holds)

    def test_a_choice_that_a_fixed_letter_undoes(self):
        # The sum is a * b - 2 * b + 1: at b = 1 it is a - 1, so the low of a is no choice.
        one = ratio(1)
        made = Scale([Lever(one), Lever(one, 0, one)], [(1, one), (1, one), (0, one)],
                     [place(0, 0), place(1, 0), place(2, 0)])
        casting = Casting(made, [(("seat", 0), "a"), (("inward", 1), "b")])
        told = self.check(casting, [stretch("a", 1, 4), stretch("b", 1, 1)])
        self.assertEqual(told.at_values[0][1], ratio(2))
        self.assertIsNone(self.check(casting, [stretch("a", 1, 1), stretch("b", 1, 1)]))

    def test_all_castings(self):
        for name, one in castings(42, 15):
            told = self.check(one, some_stretches(one, name))
            if always_settled(one) is None:
                self.assertIsNone(told)
            wide = tuple((letter, ratio(1), ratio(2)) for letter in one.letters)
            self.assertEqual(self.check(one, wide) is None, always_settled(one) is None)


class OutsideAlways(Case):

    def test_sample(self):
        one = seats(1, 3, 3, 6, letters="a  b")
        rows = [stretch("a", 2, 4), stretch("b", 3, 5)]
        # The factors are a / 3, 1, 1 and b / 3.
        for factor, error, leg, values in (
                (1, "2/3", None, None), (1, "1/3", 3, (4, 5)), (1, "1/4", 0, (2, 3)), ("3/2", "1/3", 0, (2, 3)),
                ("4/3", "1/2", None, None), ("5/4", "7/15", None, None), ("2/3", 1, 3, (2, 5)),
                ("7/6", "3/7", None, None), ("7/6", "5/12", 0, (2, 3)), (1, "1/2", 3, (2, 5)), (9, 9, None, None)):
            told = outside_always(one, rows, ratio(factor), ratio(error))
            if leg is None:
                self.assertIsNone(told)
            elif leg == 0:
                self.assertEqual(told, BeyondAlways((("a", ratio(2)), ("b", ratio(3))), 0))
            else:
                self.assertEqual(told, BeyondAlways((("a", ratio(2)), ("b", ratio(5))), 3))

    def test_least_before_greatest(self):
        one = seats(1, 1, 1, 1, letters="aaaa")
        told = outside_always(one, [stretch("a", 1, 9)], ratio(1), ratio(0))
        self.assertEqual(told, BeyondAlways((("a", ratio(1)),), 0))
        told = outside_always(one, [stretch("a", 1, 9)], ratio("1/3"), ratio(0))
        self.assertEqual(told, BeyondAlways((("a", ratio(9)),), 0))

    def test_by_going_through_the_ends(self):
        lot = random.Random(4)
        seen = set()
        for name, one in castings(43, 12):
            stretches = some_stretches(one, name)
            rows = [factors_with(one, values) for values in ends_within(stretches)]
            size = sorted(size for row in rows for size in row)[lot.randint(0, len(rows[0]) - 1)]
            for error in (Fraction(0), Fraction(1, 2), Fraction(99, 100), Fraction(1), max(map(max, rows)) / size):
                told = outside_always(one, stretches, ratio(size), ratio(error))
                low, high = size * (1 - error), size * (1 + error)
                legs = [leg for leg in range(len(one.scale))
                        if min(row[leg] for row in rows) < low or max(row[leg] for row in rows) > high]
                seen.add(told is None)
                if told is None:
                    self.assertEqual(legs, [])
                else:
                    self.assertIs(type(told), BeyondAlways)
                    self.assertEqual(told.leg, legs[0])
                    leg = told.leg
                    below = min(row[leg] for row in rows) < low
                    sign = -1 if below else 1
                    powers = exponents(one, leg)[0]
                    want = tuple((letter, to if powers[letter] * sign > 0 else at)
                                 for letter, at, to in sorted(stretches))
                    self.assertEqual(told.at_values, want)
                    if all(max(value) <= 10 ** 12 for _, value in told.at_values):
                        made = scale_at(one, told.at_values)
                        self.assertIsNotNone(outside_error(made, ratio(size), ratio(error)))
        self.assertEqual(seen, {True, False})

    def test_equality(self):
        self.told_apart(BeyondAlways((("a", ratio(1)),), 0), {"at_values": (), "leg": 1})
        self.unlike(BeyondAlways((), 0), FailsSettled((), 0))


class Refusals(Case):

    def test_order(self):
        one = seats(1, 1, 1, 1, letters="a   ")
        rows = [stretch("a", 1, 2)]
        for call in (even_within, settled_within):
            self.refuses(BadStretches, (0, "many"), call, one, None)
            self.refuses(BadStretches, (0, "missing"), call, one, ())
            self.refuses(BadStretches, (0, "high"), call, one, [("a", (2, 1), (1, 1))])
        self.refuses(BadStretches, (0, "missing"), outside_always, one, (), None, None)
        for thing in NOT_RATIOS + ((0, 1), (-1, 1), (10 ** 150 + 1, 1)):
            self.refuses(BadSize, (thing,), outside_always, one, rows, thing, None)
        for thing in NOT_RATIOS + ((-1, 1), (-1, 9)):
            self.refuses(BadError, (thing,), outside_always, one, rows, ratio(1), thing)

    def test_lists(self):
        for name, one in list(scales())[:3]:
            made = Casting(one, [(("seat", 0), "a"), (("out", 0), "b")])
            rows = (stretch("b", 1, 2), stretch("a", 2, "5/2"))
            self.takes_lists(even_within, made, rows)
            self.takes_lists(settled_within, made, rows)
            self.takes_lists(outside_always, made, rows, ratio(1), ratio(0))


if __name__ == "__main__":
    unittest.main()
