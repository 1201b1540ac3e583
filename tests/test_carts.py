"""Points 7.1 to 7.4: carts, where they stand, their stops, and lengths that make all axles sure."""

import random
import unittest
from fractions import Fraction

from tests.helper import (
    Case, NOT_ARM_SIZES, NOT_RATIOS, NOT_SEQUENCES, NOT_SMALL, NOT_WEIGHTS, SMALL, fraction, great,
    ratio,
)
from wherelaid.carts import Cart, stand_at, stops_of, sure_lengths
from wherelaid.errors import BadAmount, BadCart, BadLength, BadShift
from wherelaid.marks import sure_axles

ZERO = ratio(0)


def cart(*axles, tread=0):
    return Cart([ratio(axle) for axle in axles], ratio(tread))


def some_carts(seed, many=40):
    """Carts of 1 to 8 axles; some gaps are just 2 or 4 times the tread."""
    lot = random.Random(seed)
    for number in range(many):
        tread = Fraction(lot.choice((0, 0, 1, 1, 2)), 2)
        at = Fraction(lot.randint(-5, 5))
        axles = [at]
        for _ in range((0, 7, 1, 2, 3, 4)[number % 6]):
            at += lot.choice((2 * tread, 4 * tread, 2 * tread + Fraction(1, 3), 4 * tread + 1, 1, 3, 7)) or 1
            axles.append(at)
        yield Cart([ratio(axle) for axle in axles], ratio(tread))


def stand(one, length, shift):
    """The marks at a shift by the words of the document; all are Fractions, the cart's too."""
    axles, tread = [fraction(axle) + shift for axle in one.axles], fraction(one.tread)
    words = []
    for at in axles:
        on, before, beyond = tread <= at <= length - tread, at < -tread, at > length + tread
        if not (on or before or beyond):
            return None
        words.append("on" if on else "before" if before else "beyond")
    low = words.index("on") if "on" in words else words.count("before")
    return (low, low + words.count("on"))


def shifts(one, length):
    """All shifts at which something changes, shifts between them and beyond them."""
    axles, tread = [fraction(axle) for axle in one.axles], fraction(one.tread)
    ends = sorted({end - axle for axle in axles for end in (-tread, tread, length - tread, length + tread)})
    rows = [ends[0] - 1, *ends, ends[-1] + 1]
    return sorted({*rows, *[(a + b) / 2 for a, b in zip(rows, rows[1:])]})


class Carts(Case):

    def test_attributes(self):
        one = Cart([ratio(-1), ratio("1/2"), ratio(4)], ratio("1/3"))
        self.assertEqual((one.axles, one.tread), ((ratio(-1), ratio("1/2"), ratio(4)), ratio("1/3")))
        self.assertEqual((one.span, len(one)), (ratio(5), 3))
        self.assertEqual(Cart((ratio(7),)).tread, ZERO)
        self.assertEqual((Cart((ratio(7),)).span, len(Cart((ratio(7),)))), (ZERO, 1))
        axles = [ratio(1), ratio(2)]
        kept = Cart(axles)
        axles.clear()
        self.assertEqual(kept.axles, (ratio(1), ratio(2)))
        self.assertEqual(cart(*range(8)).span, ratio(7))
        self.assertEqual(Cart([(-SMALL, 1), (SMALL, 1)], (SMALL, 1)).span, (2 * SMALL, 1))

    def test_refusals(self):
        for thing in NOT_SEQUENCES + ((), tuple(ratio(k) for k in range(9))):
            self.refuses(BadCart, (0, "axles"), Cart, thing, None)
        for axle in NOT_RATIOS + NOT_SMALL:
            self.refuses(BadCart, (1, "axle"), Cart, [ZERO, axle, None], None)
            self.refuses(BadCart, (0, "axle"), Cart, [axle, axle])
        for axle in (0, -1, "-1/99"):
            self.refuses(BadCart, (1, "rising"), Cart, [ZERO, ratio(axle), None], None)
        self.refuses(BadCart, (2, "rising"), Cart, [ratio(1), ratio(3), ratio(2), None], ZERO)
        self.refuses(BadCart, (2, "axle"), Cart, [ratio(1), ratio(3), 2, ratio(1)], ZERO)
        for tread in NOT_WEIGHTS:
            self.refuses(BadCart, (0, "tread"), Cart, [ZERO, ratio(1)], tread)

    def test_mirrored(self):
        one = cart(-1, "1/2", 4, tread="1/3")
        self.assertEqual(one.mirrored(), cart(-4, "-1/2", 1, tread="1/3"))
        for other in some_carts(1):
            self.assertEqual(other.mirrored().mirrored(), other)
            self.assertEqual(other.mirrored().span, other.span)

    def test_shifted(self):
        one = cart(-1, "1/2", 4, tread="1/3")
        self.assertEqual(one.shifted(ratio("3/2")), cart("1/2", 2, "11/2", tread="1/3"))
        self.assertEqual(one.shifted(ratio(-4)).shifted(ratio(4)), one)
        self.assertEqual(one.shifted(ZERO), one)
        for amount in NOT_RATIOS + NOT_SMALL:
            self.refuses(BadAmount, (amount,), one.shifted, amount)
        self.refuses(BadCart, (2, "axle"), cart(-1, 1, 4).shifted, (SMALL - 1, 1))
        self.refuses(BadCart, (0, "axle"), cart(-1, 1, 4).shifted, (-SMALL, 1))
        self.refuses(BadCart, (1, "axle"), cart(0, "1/7").shifted, (1, SMALL))

    def test_coupled(self):
        one, other = cart(-1, 4, tread="1/3"), cart(10, "21/2", 20, tread="1/4")
        self.assertEqual(one.coupled(other, ratio(2)), cart(-1, 4, 6, "13/2", 16, tread="1/3"))
        self.assertEqual(other.coupled(one, ratio("1/2")), cart(10, "21/2", 20, "41/2", "51/2", tread="1/3"))
        self.assertEqual(len(cart(*range(4)).coupled(cart(*range(4)), ratio(1))), 8)
        for distance in NOT_ARM_SIZES:
            self.refuses(BadAmount, (distance,), one.coupled, other, distance)
        self.refuses(BadCart, (0, "axles"), cart(*range(4)).coupled, cart(*range(5)), ratio(1))
        self.refuses(BadCart, (3, "axle"), one.coupled, other, (SMALL - 4, 1))
        self.refuses(BadCart, (0, "axles"), cart(*range(4)).coupled, cart(*range(5)), (SMALL, 1))
        self.assertEqual(one, cart(-1, 4, tread="1/3"))

    def test_equality(self):
        self.told_apart(cart(1, 2, tread=3), {"axles": (ratio(1), ratio(3)), "tread": ratio(2)})
        self.alike(Cart([ZERO]), Cart((ZERO,), ZERO))
        self.unlike(cart(1, 2), (ratio(1), ratio(2)))


class Stands(Case):

    def test_samples(self):
        one = cart(0, 3, 10, tread=1)
        for length, shift, want in (
                (7, 1, (0, 2)), (7, "9/10", None), (7, 3, (0, 2)), ("13/2", 3, None), (7, -5, (2, 3)), (7, "-9/2", (2, 3)),
                (7, -20, (3, 3)), (7, 20, (0, 0)), (5, 1, (0, 2)), (5, "11/10", None), (7, -2, None), (3, -8, (2, 3)),
                (1, "-9/2", (2, 2)), (1, "-13/2", (2, 2))):
            self.assertEqual(stand_at(one, ratio(length), ratio(shift)), want, (length, shift))
        bare = cart(0, 4)
        for length, shift, want in ((4, 0, (0, 2)), (4, 1, (0, 1)), (4, -1, (1, 2)), (4, -4, (1, 2)), (4, -5, (2, 2)),
                                    (3, 0, (0, 1)), (3, 5, (0, 0)), (3, "-1/2", (1, 1))):
            self.assertEqual(stand_at(bare, ratio(length), ratio(shift)), want)

    def test_by_the_words(self):
        seen = set()
        for one in some_carts(2):
            for length in (Fraction(1, 2), Fraction(3), 2 * fraction(one.tread) or 1, fraction(one.span) or 1, 20):
                for shift in shifts(one, Fraction(length)):
                    told = stand_at(one, ratio(length), ratio(shift))
                    self.assertEqual(told, stand(one, Fraction(length), shift))
                    seen.add(told)
        self.assertIn(None, seen)
        self.assertGreater(len(seen), 30)

    def test_refusals(self):
        for length in NOT_ARM_SIZES:
            self.refuses(BadLength, (length,), stand_at, cart(0, 1), length, None)
            self.refuses(BadLength, (length,), stops_of, cart(0, 1), length)
        for shift in NOT_RATIOS:
            self.refuses(BadShift, (shift,), stand_at, cart(0, 1), ratio(1), shift)
        self.assertEqual(stand_at(cart(0, 1), ratio(1), (10 ** 200, 3)), (0, 0))


class Stops(Case):

    def test_samples(self):
        self.assertEqual(stops_of(cart(0), ratio(4)), ((0, 1, ratio(2)),))
        self.assertEqual(stops_of(cart(0, tread=2), ratio(4)), ((0, 1, ratio(2)),))
        self.assertEqual(stops_of(cart(0, tread=2), ratio("399/100")), ())
        self.assertEqual(stops_of(cart(5, tread=2), ratio(5)), ((0, 1, ratio("-5/2")),))
        self.assertEqual(stops_of(cart(0, 3), ratio(3)), ((1, 2, ratio("-3/2")), (0, 2, ZERO), (0, 1, ratio("3/2"))))
        self.assertEqual(stops_of(cart(0, 3), ratio("299/100"))[1:2], ((0, 1, ratio("299/200")),))
        # Axles just twice the tread apart stand on the plate together or not at all.
        self.assertEqual(stops_of(cart(0, 2, tread=1), ratio(4)), ((0, 2, ratio(1)),))

    def test_all_stops(self):
        kinds = set()
        for one in some_carts(3):
            lengths = {Fraction(1, 2), Fraction(3), Fraction(11), *[
                fraction(b) - fraction(a) + k * fraction(one.tread) for a in one.axles for b in one.axles for k in (-2, 0, 2)]}
            for length in sorted(lengths):
                if length > 0:
                    rows = stops_of(one, ratio(length))
                    self.tuples(rows)
                    found = {}
                    for shift in shifts(one, length):
                        marks = stand(one, length, shift)
                        if marks is not None and marks[0] < marks[1]:
                            found.setdefault(marks, []).append(shift)
                    self.assertEqual({row[:2] for row in rows}, set(found))
                    middles = [fraction(row[2]) for row in rows]
                    self.assertEqual(middles, sorted(set(middles)))
                    kinds.add(len(rows))
                    self.middles(one, length, rows)
        self.assertGreater(len(kinds), 6)

    def middles(self, one, length, rows):
        """Check that each middle is half the sum of the ends of the shifts of its stop."""
        ends = shifts(one, length)
        for low, high, middle in rows:
            inside = [at for at, shift in enumerate(ends) if stand(one, length, shift) == (low, high)]
            # Every other shift is one between two others: there the range goes on to the next one.
            first, last = inside[0] - inside[0] % 2, inside[-1] + inside[-1] % 2
            self.assertEqual(fraction(middle), (ends[first] + ends[last]) / 2)
            self.assertEqual(stand(one, length, fraction(middle)), (low, high))

    def test_great_numbers(self):
        axles = sorted([great(12, 5 * k) for k in range(8)], key=lambda one: Fraction(*one))
        one = Cart(axles, (1, SMALL))
        length = great(12, 3)
        self.assertEqual({row[:2] for row in stops_of(one, length)},
                         {marks for marks in [stand(one, fraction(length), shift) for shift in shifts(one, fraction(length))]
                          if marks and marks[0] < marks[1]})
        self.assertIs(type(sure_lengths(one)), tuple)


class SureLengths(Case):

    def test_samples(self):
        self.assertEqual(sure_lengths(cart(0)), ((ZERO, None),))
        self.assertEqual(sure_lengths(cart(0, tread=2)), ((ratio(4), None),))
        self.assertEqual(sure_lengths(cart(0, 2, tread=1)), ())
        self.assertEqual(sure_lengths(cart(0, 2, 9, tread=1)), ())
        self.assertEqual(sure_lengths(cart(0, 5, 10, tread=1)), ((ratio(2), None),))
        self.assertEqual(sure_lengths(cart(0, 1, 2)), ((ZERO, None),))

    def test_far_apart(self):
        # All gaps above 4 * tread: from 2 * tread on.
        for gap in ("41/10", 5, 100):
            one = cart(*[Fraction(gap) * k for k in range(6)], tread=1)
            self.assertEqual(sure_lengths(one), ((ratio(2), None),))
        self.assertEqual(sure_lengths(cart(0, 4, tread=1)), ((ratio(2), None),))
        # The middle axle stands alone at lengths below 11/2, with another one from 23/4 on.
        self.assertEqual(sure_lengths(cart(0, "15/4", "15/2", tread=1)), ((ratio(2), ratio("11/2")), (ratio("23/4"), None)))

    def is_sure(self, one, length):
        ties = sorted({marks for marks in [stand(one, length, shift) for shift in shifts(one, length)]
                       if marks and marks[0] < marks[1]})
        return sure_axles(len(one), ties) == tuple(range(len(one)))

    def test_at_many_lengths(self):
        kinds = set()
        for one in some_carts(4, 60):
            told = sure_lengths(one)
            self.tuples(tuple(row if row[1] is not None else row[:1] for row in told))
            for (_, high), (low, _) in zip(told, told[1:]):
                self.assertLess(fraction(high), fraction(low))
            self.assertTrue(all(high is None or fraction(low) < fraction(high) for low, high in told))
            tread = fraction(one.tread)
            gaps = [fraction(b) - fraction(a) for a, b in zip(one.axles, one.axles[1:])]
            self.assertEqual(told == (), any(gap <= 2 * tread for gap in gaps))
            if all(gap > 4 * tread for gap in gaps):
                self.assertEqual(told, ((ratio(2 * tread), None),))
            ends = sorted({Fraction(1, 9), *[abs(fraction(b) - fraction(a)) + k * tread
                                             for a in one.axles for b in one.axles for k in (-2, 0, 2)]})
            rows = ends if len(one) < 7 else ends[::5]
            for length in [*rows, *[(a + b) / 2 for a, b in zip(rows, rows[1:])], ends[-1] + 1]:
                if length > 0:
                    inside = any(fraction(low) <= length and (high is None or length < fraction(high))
                                 for low, high in told)
                    self.assertEqual(inside, self.is_sure(one, length))
            kinds.add(len(told))
        self.assertLessEqual({0, 1}, kinds)

    def test_gaps_between_sure_lengths(self):
        # Some lengths in between make some axle unsure.
        found = 0
        lot = random.Random(9)
        for _ in range(200):
            at = Fraction(0)
            axles = [at]
            for _ in range(lot.randint(2, 5)):
                at += lot.choice((Fraction(9, 4), Fraction(5, 2), 3, 4, 6))
                axles.append(at)
            one = Cart([ratio(axle) for axle in axles], ratio(1))
            told = sure_lengths(one)
            if len(told) > 1:
                found += 1
                for (_, high), (low, _) in zip(told, told[1:]):
                    self.assertFalse(self.is_sure(one, fraction(high)))
                    self.assertFalse(self.is_sure(one, (fraction(high) + fraction(low)) / 2))
                    self.assertTrue(self.is_sure(one, fraction(low)))
        self.assertGreater(found, 3)

    def test_mirrored_and_shifted(self):
        for one in some_carts(5, 20):
            self.assertEqual(sure_lengths(one.mirrored()), sure_lengths(one))
            self.assertEqual(sure_lengths(one.shifted(ratio("7/3"))), sure_lengths(one))


if __name__ == "__main__":
    unittest.main()
