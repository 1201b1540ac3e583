"""Points 9.5 and 9.6: beams with two pans, and loads weighed on both of them."""

import random
import unittest
from fractions import Fraction

from tests.helper import (
    Case, NOT_ABOVE_ZERO, NOT_ARM_SIZES, NOT_SEQUENCES, SMALL, fraction, great, ratio,
)
from tests.test_shown import NOT_FROM_ZERO
from wherelaid.errors import BadPan, BadPans, BadPoise, BadPoises, BadWeight, OtherPans
from wherelaid.pans import Pans, TwiceWeighed, compare_twice, sum_twice, twice_weighed

ZERO, ONE = ratio(0), ratio(1)
NOT_PANS = (None, 0, True, "", "Left", "l", ("left",), ["left"], "left ", b"left", "even")


def some_pans(seed, many=30):
    lot = random.Random(seed)
    for _ in range(many):
        yield Pans(ratio(Fraction(lot.randint(1, 9), lot.randint(1, 5))), ratio(Fraction(lot.randint(1, 9), lot.randint(1, 5))))


class Beams(Case):

    def test_attributes(self):
        one = Pans(ratio(2), ratio("3/2"))
        self.assertEqual((one.left, one.right, one.quotient), (ratio(2), ratio("3/2"), ratio("3/4")))
        self.assertEqual(Pans((SMALL, 1), (1, SMALL)).quotient, (1, SMALL ** 2))

    def test_refusals(self):
        for size in NOT_ARM_SIZES:
            self.refuses(BadPans, ("left",), Pans, size, None)
            self.refuses(BadPans, ("right",), Pans, ONE, size)

    def test_exchanged(self):
        one = Pans(ratio(2), ratio("3/2"))
        self.assertEqual(one.exchanged(), Pans(ratio("3/2"), ratio(2)))
        self.assertEqual(one.exchanged().quotient, ratio("4/3"))
        self.assertEqual(one.exchanged().exchanged(), one)
        self.assertEqual(one, Pans(ratio(2), ratio("3/2")))

    def test_equality(self):
        self.told_apart(Pans(ratio(2), ratio("3/2")), {"left": ratio(1), "right": ratio(1)})
        # The same quotient is not enough.
        self.unlike(Pans(ONE, ONE), Pans(ratio(2), ratio(2)))

    def test_sinks(self):
        one = Pans(ratio(2), ratio("3/2"))
        for left, right, want in ((3, 4, "even"), (3, "399/100", "left"), ("299/100", 4, "right"), (0, 0, "even"),
                                  (0, "1/9", "right"), ("1/9", 0, "left")):
            self.assertEqual(one.sinks(ratio(left), ratio(right)), want)
        self.assertEqual(one.sinks(great(250, 1), great(250, 5)), "left")

    def test_sinks_by_pulls(self):
        lot = random.Random(2)
        seen = set()
        for one in some_pans(1, 60):
            left, right = ratio(lot.choice((0, 1, 2, "3/2"))), ratio(lot.choice((0, 1, 2, "3/2")))
            pulls = fraction(left) * fraction(one.left) - fraction(right) * fraction(one.right)
            want = "left" if pulls > 0 else "right" if pulls < 0 else "even"
            self.assertEqual(one.sinks(left, right), want)
            opposite = {"left": "right", "right": "left", "even": "even"}[want]
            self.assertEqual(one.exchanged().sinks(right, left), opposite)
            seen.add(want)
        self.assertEqual(len(seen), 3)

    def test_poises(self):
        one = Pans(ratio(2), ratio("3/2"))
        self.assertEqual(one.poise_for(ratio(3), "left"), ratio(4))
        self.assertEqual(one.poise_for(ratio(4), "right"), ratio(3))
        for pan in ("left", "right"):
            self.assertEqual(one.poise_for(ZERO, pan), ZERO)
        for other in some_pans(3):
            for weight in (ratio("1/7"), ratio(5), great(200, 3)):
                self.assertEqual(other.sinks(weight, other.poise_for(weight, "left")), "even")
                self.assertEqual(other.sinks(other.poise_for(weight, "right"), weight), "even")
                self.assertEqual(other.exchanged().poise_for(weight, "left"), other.poise_for(weight, "right"))

    def test_refused_weights(self):
        one = Pans(ratio(2), ratio("3/2"))
        for weight in NOT_FROM_ZERO:
            self.refuses(BadWeight, (weight,), one.sinks, weight, None)
            self.refuses(BadWeight, (weight,), one.sinks, ONE, weight)
            self.refuses(BadWeight, (weight,), one.poise_for, weight, None)
        for pan in NOT_PANS:
            self.refuses(BadPan, (pan,), one.poise_for, ONE, pan)


class Twice(Case):

    def test_samples(self):
        self.assertEqual(twice_weighed(ratio(2), ratio(8)), TwiceWeighed(ratio(16), ratio(4)))
        self.assertEqual(twice_weighed(ratio(8), ratio(2)), TwiceWeighed(ratio(16), ratio("1/4")))
        for weight, want in ((3, 1), (4, 0), (5, -1), (0, 1), ("399/100", 1), ("401/100", -1)):
            self.assertEqual(compare_twice(ratio(2), ratio(8), ratio(weight)), want)
        # The root of 2 lies between these.
        self.assertEqual(compare_twice(ONE, ratio(2), ratio("141421356237/100000000000")), 1)
        self.assertEqual(compare_twice(ONE, ratio(2), ratio("141421356238/100000000000")), -1)

    def test_with_pans(self):
        for one in some_pans(4):
            for weight in (ratio("1/7"), ratio(5), great(100, 3)):
                left, right = one.poise_for(weight, "left"), one.poise_for(weight, "right")
                told = twice_weighed(left, right)
                self.assertEqual(fraction(told.square), fraction(weight) ** 2)
                self.assertEqual(fraction(told.quotient), fraction(one.quotient) ** 2)
                self.assertEqual(compare_twice(left, right, weight), 0)
                self.assertEqual(compare_twice(left, right, ratio(fraction(weight) * Fraction(10 ** 30 + 1, 10 ** 30))), -1)
                self.assertEqual(compare_twice(left, right, ratio(fraction(weight) * Fraction(10 ** 30 - 1, 10 ** 30))), 1)

    def test_sums(self):
        lot = random.Random(6)
        self.assertEqual(sum_twice(((ratio(2), ratio(8)),)), ratio(16))
        self.assertEqual(sum_twice([[ratio(2), ratio(8)], (ONE, ratio(4))]), ratio(36))
        # Weights that are no ratios: the roots of 2 and of 8.
        self.assertEqual(sum_twice(((ONE, ratio(2)), (ratio(2), ratio(4)))), ratio(18))
        for one in some_pans(5, 10):
            weights = [ratio(Fraction(lot.randint(1, 9), lot.randint(1, 4))) for _ in range(lot.choice((1, 2, 5, 8)))]
            rows = tuple((one.poise_for(weight, "left"), one.poise_for(weight, "right")) for weight in weights)
            told = self.takes_lists(sum_twice, rows)
            self.tuples(told)
            self.assertEqual(fraction(told), sum(fraction(weight) for weight in weights) ** 2)

    def test_refusals(self):
        for poise in NOT_ABOVE_ZERO:
            self.refuses(BadPoise, (poise,), twice_weighed, poise, None)
            self.refuses(BadPoise, (poise,), twice_weighed, ONE, poise)
            self.refuses(BadPoise, (poise,), compare_twice, poise, None, None)
            self.refuses(BadPoise, (poise,), compare_twice, ONE, poise, None)
        for weight in NOT_FROM_ZERO:
            self.refuses(BadWeight, (weight,), compare_twice, ONE, ONE, weight)

    def test_refused_rows(self):
        row = (ONE, ratio(2))
        for thing in NOT_SEQUENCES + ((), [], (row,) * 9):
            self.refuses(BadPoises, (0, "many"), sum_twice, thing)
        for couple in NOT_SEQUENCES + ((), (ONE,), (ONE,) * 3, (1, 2)):
            self.refuses(BadPoises, (1, "poises"), sum_twice, (row, couple, None))
        for poise in NOT_ABOVE_ZERO:
            self.refuses(BadPoises, (1, "poises"), sum_twice, (row, (ONE, poise)))
            self.refuses(BadPoises, (0, "poises"), sum_twice, ((poise, ONE), None))
        self.refuses(OtherPans, (2,), sum_twice, (row, (ratio(2), ratio(4)), (ratio(2), ONE), row, (ONE, ONE)))
        self.refuses(OtherPans, (1,), sum_twice, [row, (ONE, ratio("201/100"))])
        # Each couple is checked before any is compared.
        self.refuses(BadPoises, (2, "poises"), sum_twice, (row, (ONE, ONE), (ONE, ZERO)))
        self.assertEqual(sum_twice((row,) * 8), ratio(128))


class Equality(Case):

    def test_equality(self):
        self.told_apart(TwiceWeighed(ONE, ratio(2)), {"square": ZERO, "quotient": ONE})


if __name__ == "__main__":
    unittest.main()
