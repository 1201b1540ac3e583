"""Points 4.5, 4.6 and 4.9: castings that are always even or settled, and what spoils it."""

import random
import unittest
from fractions import Fraction

from tests.helper import (
    Case, NOT_ABOVE_ZERO, NOT_SEQUENCES, castings, corners, exponents, factors_with, fraction,
    is_swap_by_words, levers, place, plain, ratio, scale, scales, some_values,
)
from wherelaid.always import (
    FailsEven, FailsSettled, always_even, always_even_fault, always_settled, always_settled_fault,
    spoiling_arms,
)
from wherelaid.arms import arm_size, arms_of, with_arm
from wherelaid.castings import Casting
from wherelaid.errors import BadAim, NotSo
from wherelaid.even import is_even
from wherelaid.scales import Lever, Scale, plain_of
from wherelaid.settled import is_settled
from wherelaid.swaps import plain_swaps

THINGS = (True, 0, "even", (), [], (("a", (1, 1)),), FailsEven, FailsSettled)


def even_casting():
    """Four legs with equal seats on the beam; the letters stand for all seats and the out arm."""
    one = Scale(levers(), [(0, ratio(3))] * 4, corners())
    return Casting(one, [(("seat", leg), "b") for leg in range(4)] + [(("out", 0), "a")])


def row_casting():
    """A letter on one seat of four: settled for one of its sizes only."""
    return Casting(dict(scales())["settled"], [(("seat", 1), "c"), (("out", 0), "d")])


def seats_with(letters):
    """Four legs on the beam with equal seats, of which these bear letters."""
    rows = [(("seat", leg), letter) for leg, letter in enumerate(letters) if letter != " "]
    return Casting(Scale(levers(), [(0, ratio(1))] * 4, corners()), rows)


def group_sums(casting, swap):
    """For each row of powers the sum of number of the swap * number of the monomial."""
    sums = {}
    for leg, number in enumerate(swap):
        powers, size = exponents(casting, leg)
        key = tuple(powers.items())
        sums[key] = sums.get(key, 0) + number * size
    return sums


class AlwaysEven(Case):

    def test_exactly_if_all_monomials_are_equal(self):
        kinds = set()
        for name, one in castings(5, 20):
            told = always_even(one)
            legs = [exponents(one, leg) for leg in range(len(one.scale))]
            self.assertEqual(told is None, all(leg == legs[0] for leg in legs), name)
            kinds.add(type(told))
            if told is None:
                for values in some_values(one, name):
                    self.assertEqual(len(set(factors_with(one, dict(values)))), 1)
            else:
                self.shows_it_fails(one, told)
            self.assertIsNone(always_even_fault(one, told))
        self.assertEqual(kinds, {type(None), FailsEven})

    def shows_it_fails(self, one, told):
        self.assertIs(type(told), FailsEven)
        self.assertEqual(tuple(letter for letter, _ in told.at_values), one.letters)
        self.assertLessEqual({size for _, size in told.at_values}, {(1, 1), (2, 1)})
        factors = factors_with(one, dict(told.at_values))
        self.assertNotEqual(factors[told.leg], factors[told.other])

    def test_unlike_by_powers_alone(self):
        for letters in ("ab  ", "a   ", "   h", "aaab", "abab"):
            self.shows_it_fails(seats_with(letters), always_even(seats_with(letters)))
        # Here all numbers are 1 / 3, and the power below 0.
        made = Scale(levers(), [(0, ratio(1))] * 3 + [(1, ratio(2))], corners())
        out = Casting(made, [(("out", 1), "a")])
        self.shows_it_fails(out, always_even(out))

    def test_always_even_with_letters(self):
        self.assertIsNone(always_even(even_casting()))
        self.assertIsNone(always_even_fault(even_casting(), None))
        twice = Casting(dict(scales())["row"], ())
        self.assertIsNotNone(always_even(twice))
        met = Casting(Scale([Lever(ratio(3)), Lever(ratio(7), 0, ratio(2))],
                            [(0, ratio(5)), (1, ratio(5))], corners()[:2]),
                      [(("inward", 1), "a"), (("out", 1), "a")])
        self.assertIsNone(always_even(met))

    def test_judging(self):
        one = row_casting()
        good = (("c", ratio(3)), ("d", ratio(1)))
        for thing in THINGS + (FailsSettled(good, (1, -1, 1, -1)),):
            self.assertEqual(always_even_fault(one, thing), "kind")
            self.assertEqual(always_even_fault(even_casting(), thing), "kind")
        self.assertEqual(always_even_fault(one, None), "fails")
        self.assertIsNone(always_even_fault(one, FailsEven(good, 0, 1)))
        self.assertIsNone(always_even_fault(one, FailsEven(good, 3, 2)))
        self.assertIsNone(always_even_fault(one, FailsEven(list(good), 0, 1)))
        # Values of any size, not 1 or 2 alone.
        great = (("d", (10 ** 30 + 1, 10 ** 30)), ("c", (1, 10 ** 40)))
        self.assertIsNone(always_even_fault(one, FailsEven(great, 0, 1)))
        for values in NOT_SEQUENCES + (
                good[:1], good[1:], (), good + (("a", ratio(1)),), good + good[:1], (good[0], None),
                (("c", ratio(1)), ("e", ratio(1))), (good[0], ("d",)), (good[0], ("d", (0, 1)))):
            self.assertEqual(always_even_fault(one, FailsEven(values, 0, 1)), "values")
            self.assertEqual(always_even_fault(one, FailsEven(values, None, 9)), "values")
        for size in NOT_ABOVE_ZERO:
            self.assertEqual(always_even_fault(one, FailsEven((("c", size), good[1]), 0, 1)), "values")
        for leg in (-1, 4, None, True, False, "1", (1,), [0]):
            self.assertEqual(always_even_fault(one, FailsEven(good, leg, 1)), "legs")
            self.assertEqual(always_even_fault(one, FailsEven(good, 0, leg)), "legs")
        for leg, other in ((0, 0), (2, 2), (1, 3)):
            self.assertEqual(always_even_fault(one, FailsEven((("c", ratio(4)), good[1]), leg, other)), "same")
        for values in some_values(even_casting(), 8):
            self.assertEqual(always_even_fault(even_casting(), FailsEven(values, 0, 3)), "same")


class AlwaysSettled(Case):

    def test_exactly_if_all_sums_are_zero(self):
        kinds = set()
        for name, one in castings(9, 20):
            told = always_settled(one)
            sums = [group_sums(one, swap) for swap in plain_swaps(one.scale.places)]
            self.assertEqual(told is None, not any(any(row.values()) for row in sums), name)
            kinds.add(type(told))
            if told is None:
                for values in some_values(one, name):
                    factors = factors_with(one, dict(values))
                    for swap in plain_swaps(one.scale.places):
                        self.assertEqual(sum(a * b for a, b in zip(swap, factors)), 0)
            else:
                self.shows_it_fails(one, told)
            self.assertIsNone(always_settled_fault(one, told))
        self.assertEqual(kinds, {type(None), FailsSettled})

    def shows_it_fails(self, one, told):
        self.assertIs(type(told), FailsSettled)
        self.assertEqual(tuple(letter for letter, _ in told.at_values), one.letters)
        sizes = {(size, 1) for size in range(1, len(one.scale) + 1)}
        self.assertLessEqual({size for _, size in told.at_values}, sizes)
        self.assertTrue(is_swap_by_words(one.scale.places, told.swap))
        self.tuples(told.swap)
        factors = factors_with(one, dict(told.at_values))
        self.assertNotEqual(sum(a * b for a, b in zip(told.swap, factors)), 0)

    def test_sums_that_are_zero_at_some_values(self):
        # The sum of number * factor is 1 - b + 1 - .. or the like, which is 0 with 1 for all letters.
        for letters in ("ab  ", "a   ", "abcd", "abab", "abca"):
            self.shows_it_fails(seats_with(letters), always_settled(seats_with(letters)))
        for letters in ("abba", "aabb", "aaaa", "    "):
            self.assertIsNone(always_settled(seats_with(letters)))

    def test_as_many_roots_as_can_be(self):
        # With the swap (1, 2, -3) the sum is a * a - (root + other) * a + root * other.
        one = ratio(1)
        for root, other in ((1, 2), (1, 3), (2, 3)):
            made = Scale(
                [Lever(one), Lever(one, 0, one), Lever(one, 0, one), Lever(one, 1, one)],
                [(3, one), (0, ratio(Fraction(root * other, 2))), (2, ratio(Fraction(root + other, 3)))],
                [place(0, 0), place(3, 0), place(2, 0)])
            casting = Casting(made, [(("inward", lever), "a") for lever in (1, 2, 3)])
            for size in (root, other):
                factors = factors_with(casting, {"a": size})
                self.assertEqual(sum(a * b for a, b in zip((1, 2, -3), factors)), 0)
            told = always_settled(casting)
            self.shows_it_fails(casting, told)
            self.assertEqual(told.at_values[0][1], ratio(6 - root - other))

    def test_always_settled_with_letters(self):
        one = Casting(dict(scales())["settled"], [(("out", 0), "a")])
        self.assertIsNone(always_settled(one))
        self.assertIsNone(always_settled(even_casting()))
        for name in ("two legs", "beam"):
            made = dict(scales())[name]
            self.assertIsNone(always_settled(Casting(made, [(arm, "a") for arm in arms_of(made)[:3]])))
        self.assertEqual(always_settled(row_casting()).swap, (1, -1, 1, -1))

    def test_judging(self):
        one = row_casting()
        good, swap = (("c", ratio(3)), ("d", ratio(1))), (1, -1, 1, -1)
        for thing in THINGS + (FailsEven(good, 0, 1),):
            self.assertEqual(always_settled_fault(one, thing), "kind")
            self.assertEqual(always_settled_fault(even_casting(), thing), "kind")
        self.assertEqual(always_settled_fault(one, None), "fails")
        for numbers in (swap, (-1, 1, -1, 1), (7, -7, 7, -7), [1, -1, 1, -1]):
            self.assertIsNone(always_settled_fault(one, FailsSettled(good, numbers)))
        great = (("d", (10 ** 30 + 1, 10 ** 30)), ("c", (1, 10 ** 40)))
        self.assertIsNone(always_settled_fault(one, FailsSettled(great, swap)))
        for values in NOT_SEQUENCES + (good[:1], (), good + good[:1], (good[0], ("d", (0, 1)))):
            self.assertEqual(always_settled_fault(one, FailsSettled(values, swap)), "values")
            self.assertEqual(always_settled_fault(one, FailsSettled(values, None)), "values")
        for numbers in NOT_SEQUENCES + (
                (), (0, 0, 0, 0), (1, -1, 1), (1, -1, 1, -1, 0), (1, -1, 1, True), (1, 1, -1, -1),
                (ratio(1),) * 4, (1, -1, 0, 0), (2, -1, 1, -1), (1, -1, 1, "-1")):
            self.assertEqual(always_settled_fault(one, FailsSettled(good, numbers)), "swap")
            self.assertEqual(
                always_settled_fault(one, FailsSettled((("c", ratio(4)), good[1]), numbers)), "swap")
        same = (("c", ratio(4)), ("d", ratio("5/7")))
        self.assertEqual(always_settled_fault(one, FailsSettled(same, swap)), "same")
        for values in some_values(even_casting(), 8):
            self.assertEqual(always_settled_fault(even_casting(), FailsSettled(values, swap)), "same")

    def test_equality(self):
        good = (("c", ratio(3)),)
        self.told_apart(FailsEven(good, 0, 1), {"at_values": (), "leg": 2, "other": 0})
        self.told_apart(FailsSettled(good, (1, -1)), {"at_values": (), "swap": (-1, 1)})
        self.unlike(FailsEven(good, 0, 1), FailsSettled(good, 0))


class Spoiling(Case):

    def test_samples(self):
        one = dict(scales())["even"]
        self.assertEqual(spoiling_arms(one, "even"), tuple(("seat", leg) for leg in range(4)))
        self.assertEqual(spoiling_arms(one, "settled"), tuple(("seat", leg) for leg in range(4)))
        settled = dict(scales())["settled"]
        self.assertEqual(spoiling_arms(settled, "settled"), (
            ("out", 1), ("inward", 1), ("out", 2), ("inward", 2)) + tuple(("seat", leg) for leg in range(4)))
        # A lever that bears nothing, and one that bears all legs, spoil nothing.
        below = Scale([Lever(ratio(3)), Lever(ratio(2), 0, ratio(1)), Lever(ratio(2), 0, ratio(1))],
                      [(1, ratio(1)), (1, ratio(1))], corners()[:2])
        self.assertEqual(spoiling_arms(below, "even"), (("seat", 0), ("seat", 1)))
        self.assertEqual(spoiling_arms(below, "settled"), ())

    def test_a_lever_under_half_of_the_legs(self):
        # The legs of one lever are those on a side: to change it turns the plane.
        one = Scale([Lever(ratio(1)), Lever(ratio(2), 0, ratio(2))],
                    [(0, ratio(3)), (1, ratio(3)), (1, ratio(3)), (0, ratio(3))], corners())
        self.assertEqual(spoiling_arms(one, "even"),
                         (("out", 1), ("inward", 1)) + tuple(("seat", leg) for leg in range(4)))
        self.assertEqual(spoiling_arms(one, "settled"), tuple(("seat", leg) for leg in range(4)))

    def test_against_other_sizes(self):
        lot = random.Random(6)
        tried = 0
        for name, one in scales():
            for wish, holds in (("even", is_even), ("settled", is_settled)):
                if holds(one) and name != "great":
                    arms = spoiling_arms(one, wish)
                    self.assertEqual(arms, tuple(arm for arm in arms_of(one) if arm in arms))
                    for arm in arms_of(one):
                        own = fraction(arm_size(one, arm))
                        for size in {Fraction(lot.randint(1, 9), lot.randint(1, 5)) for _ in range(4)} - {own}:
                            tried += 1
                            self.assertEqual(holds(with_arm(one, arm, ratio(size))), arm not in arms)
                    self.assertEqual(spoiling_arms(plain_of(one), wish), ())
        self.assertGreater(tried, 50)

    def test_refusals(self):
        for thing in (None, True, 0, "", "evens", "Even", ("even",), ["settled"], b"even"):
            for one in (scale(), plain(), dict(scales())["even"]):
                self.refuses(BadAim, (thing,), spoiling_arms, one, thing)
        for one in (scale(), plain()):
            self.refuses(NotSo, ("even",), spoiling_arms, one, "even")
            self.refuses(NotSo, ("settled",), spoiling_arms, one, "settled")
        self.refuses(NotSo, ("even",), spoiling_arms, dict(scales())["settled"], "even")


if __name__ == "__main__":
    unittest.main()
