"""Points 4.10, 4.11 and 4.13: stretches of sizes, and factors and showings within them."""

import random
import unittest
from fractions import Fraction
from itertools import product

from tests.helper import (
    Case, NOT_ARM_SIZES, NOT_SEQUENCES, SMALL, castings, corners, exponents, factors_with, fits,
    fraction, great, lean_by_solving, place, ratio, scale, scales, some_loads,
)
from wherelaid.castings import Casting, monomial_of
from wherelaid.errors import BadLoads, BadStretches, NoLeg, TwoWays
from wherelaid.hulls import sides_of
from wherelaid.scales import Lever, Scale
from wherelaid.skins import Tips, range_of
from wherelaid.stretches import (
    Ends, Most, check_stretches, factor_range, greatest_showing, quotient_range, showing_range,
)


def sample():
    """Letters that rise, that fall, that go two ways and that meet to nothing."""
    return Casting(scale(), [
        (("out", 0), "c"), (("inward", 1), "a"), (("seat", 1), "b"), (("seat", 4), "b"), (("seat", 0), "d"),
        (("out", 3), "d")])


GOOD = (("b", ratio(2), ratio(3)), ("a", ratio("1/2"), ratio(5)), ("d", ratio(1), ratio(1)),
        ("c", ratio("1/9"), ratio("8/9")))


def some_stretches(casting, seed):
    """Stretches for all letters: wide ones, and some of one size only."""
    lot = random.Random(seed)
    rows = []
    for letter in casting.letters:
        low = Fraction(lot.randint(1, 9), lot.randint(1, 5))
        rows.append((letter, ratio(low), ratio(low + Fraction(lot.randint(0, 3), 2))))
    lot.shuffle(rows)
    return tuple(rows)


def ends_within(stretches):
    """All values with each letter at an end of its stretch, as dicts."""
    for chosen in product(*[sorted({low, high}) for _, low, high in stretches]):
        yield {row[0]: size for row, size in zip(stretches, chosen)}


def between(stretches, seed):
    """Some values within, as dicts of Fractions."""
    lot = random.Random(seed)
    for _ in range(5):
        yield {letter: fraction(low) + (fraction(high) - fraction(low)) * Fraction(lot.randint(0, 6), 6)
               for letter, low, high in stretches}


class Checking(Case):

    def test_order_and_tuples(self):
        told = self.takes_lists(check_stretches, sample(), GOOD)
        self.assertEqual(told, tuple(sorted(GOOD)))
        self.assertEqual(check_stretches(Casting(scale(), ()), ()), ())
        one = Casting(scale(), [(("seat", 0), "h")])
        for low, high in ((1, 1), ((1, SMALL), (SMALL, 1)), ((SMALL, 1), (SMALL, 1)), ("1/3", "1/2")):
            row = ("h", low if isinstance(low, tuple) else ratio(low),
                   high if isinstance(high, tuple) else ratio(high))
            self.assertEqual(check_stretches(one, [row]), (row,))

    def refused(self, told, stretches):
        for call in (check_stretches,):
            self.refuses(BadStretches, told, call, sample(), stretches)
        for call in (factor_range, showing_range, greatest_showing):
            self.refuses(BadStretches, told, call, sample(), stretches, None)
        self.refuses(BadStretches, told, quotient_range, sample(), stretches, None, None)

    def test_refusals(self):
        for thing in NOT_SEQUENCES:
            self.refused((0, "many"), thing)
        one = ratio(1)
        for word, rows in (
                ("stretch", (None, 0, "abc", (), ("a", one), ("a", one, one, one), {0: "a", 1: 2, 2: 3})),
                ("letter", (("e", one, one), ("A", one, one), (None, one, one), (0, one, one), (["a"], one, one),
                            ("", None, None), (True, one, one))),
                ("low", (("a", None, one), ("a", (0, 1), one), ("a", 1, None), ("b", (SMALL + 1, 1), one))),
                ("high", (("a", one, None), ("a", one, (1, 2)), ("b", one, 1), ("a", (2, 3), (SMALL - 1, SMALL * 2)),
                          ("a", (SMALL, 1), (SMALL - 1, 1)), ("a", one, (SMALL + 1, 1)))),
                ("twice", (GOOD[0], ("b", one, one)))):
            for row in rows:
                self.refused((1, word), [GOOD[0], row])
                self.refused((1, word), (GOOD[0], row, None))
        for size in NOT_ARM_SIZES:
            self.refused((0, "low"), [("a", size, one)])
            self.refused((0, "high"), [("a", one, size)])
        self.refused((0, "missing"), ())
        self.refused((2, "missing"), [GOOD[0], GOOD[1], GOOD[2]])
        self.refused((0, "missing"), [GOOD[0], GOOD[2], GOOD[3]])
        self.refused((1, "missing"), [GOOD[1]])
        self.refused((0, "low"), [("a", None, None), None])
        self.refused((3, "high"), [*GOOD[:3], ("b", (2, 1), (1, 1))])
        self.refused((3, "low"), [*GOOD[:3], ("b", None, (1, 1))])
        self.refused((4, "twice"), [*GOOD, GOOD[2]])
        self.refuses(BadStretches, (0, "letter"), check_stretches, Casting(scale(), ()), [GOOD[0]])


class Ranges(Case):

    def test_sample(self):
        low = (("a", ratio("1/2")), ("b", ratio(2)), ("c", ratio("8/9")), ("d", ratio(1)))
        high = (("a", ratio(5)), ("b", ratio(3)), ("c", ratio("1/9")), ("d", ratio(1)))
        told = factor_range(sample(), GOOD, 1)
        self.assertEqual((told.low_values, told.high_values), (low, high))
        self.assertEqual((told.least, told.greatest), (ratio("9/40"), ratio(27)))
        # A letter of power 0 has its low at both ends.
        other = factor_range(sample(), GOOD, 0)
        self.assertEqual(dict(other.high_values)["a"], ratio("1/2"))
        self.assertEqual(dict(other.low_values)["b"], ratio(2))
        self.assertEqual(dict(other.low_values)["c"], ratio("8/9"))

    def by_words(self, powers, size_of, stretches, told):
        self.assertIs(type(told), Ends)
        low = tuple((letter, high if powers(letter) < 0 else low) for letter, low, high in sorted(stretches))
        high = tuple((letter, high if powers(letter) > 0 else low) for letter, low, high in sorted(stretches))
        self.assertEqual((told.low_values, told.high_values), (low, high))
        self.assertEqual(fraction(told.least), size_of(dict(low)))
        self.assertEqual(fraction(told.greatest), size_of(dict(high)))
        self.tuples((told.least, told.greatest))
        rows = list(ends_within(stretches))[:40] + list(between(stretches, 3))
        sizes = [size_of(values) for values in rows]
        self.assertLessEqual(fraction(told.least), min(sizes))
        self.assertGreaterEqual(fraction(told.greatest), max(sizes))

    def test_factors_and_quotients(self):
        for name, one in castings(21, 8):
            stretches = some_stretches(one, name)
            many = len(one.scale)
            powers = [exponents(one, leg)[0] for leg in range(many)]
            for leg in range(many):
                self.by_words(lambda letter: powers[leg][letter], lambda values: factors_with(one, values)[leg],
                              stretches, factor_range(one, stretches, leg))
            for leg, other in ((0, 1), (1, 0), (many - 1, 0), (1, 1)):
                self.by_words(lambda letter: powers[leg][letter] - powers[other][letter],
                              lambda values: factors_with(one, values)[leg] / factors_with(one, values)[other],
                              stretches, quotient_range(one, stretches, leg, other))

    def test_lists_and_great_numbers(self):
        self.takes_lists(factor_range, sample(), GOOD, 3)
        self.takes_lists(quotient_range, sample(), GOOD, 3, 0)
        rows = [(("seat", 0), "a"), (("out", 0), "b")]
        far = [("a", great(12, 1), great(12, 9)), ("b", (1, SMALL), (SMALL, 1))]
        told = factor_range(Casting(scale(), rows), far, 0)
        self.assertEqual(fraction(told.least), min(fraction(far[0][1]), fraction(far[0][2])) / SMALL)

    def test_refused_legs(self):
        for leg in (-1, 5, None, True, "0", (0,)):
            self.refuses(NoLeg, (leg,), factor_range, sample(), GOOD, leg)
            self.refuses(NoLeg, (leg,), quotient_range, sample(), GOOD, leg, 9)
            self.refuses(NoLeg, (leg,), quotient_range, sample(), GOOD, 4, leg)

    def test_equality(self):
        parts = {"least": ratio(7), "greatest": ratio(8), "low_values": (), "high_values": None}
        self.told_apart(Ends(ratio(1), ratio(2), GOOD, GOOD), parts)
        self.told_apart(Most(ratio(1), GOOD, ()), {"showing": ratio(2), "at_values": (), "pushes": None})
        self.unlike(Ends(1, 2, 3, 4), Most(1, 2, 3))


class Showings(Case):

    def one_way_letters(self, one):
        rows = [exponents(one, leg)[0] for leg in range(len(one.scale))]
        return [letter for letter in one.letters
                if len({row[letter] > 0 for row in rows if row[letter]}) < 2]

    def test_showing_range(self):
        seen = set()
        for name, one in castings(33, 10):
            stretches = some_stretches(one, name)
            two = [letter for letter in one.letters if letter not in self.one_way_letters(one)]
            for loads in some_loads(one.scale.places):
                if two:
                    self.refuses(TwoWays, (two[0],), showing_range, one, stretches, loads)
                    seen.add(TwoWays)
                    continue
                told = showing_range(one, stretches, loads)
                seen.add(type(told))
                lean = lean_by_solving(one.scale.places, loads)
                if not lean:
                    self.assertEqual(told, Tips(range_of(one.scale, loads).side))
                    continue
                self.within(told, stretches)
                rows = [factors_with(one, values) for values in list(ends_within(stretches))[:32]]
                rows += [factors_with(one, values) for values in between(stretches, 5)]
                sizes = [sum(a * b for a, b in zip(row, pushes)) for row in rows for pushes in lean]
                self.assertLessEqual(fraction(told.least), min(sizes))
                self.assertGreaterEqual(fraction(told.greatest), max(sizes))
                for end, values, pick in ((told.least, told.low_values, min), (told.greatest, told.high_values, max)):
                    row = factors_with(one, dict(values))
                    self.assertEqual(fraction(end), pick(sum(a * b for a, b in zip(row, p)) for p in lean))
        self.assertEqual(seen, {TwoWays, Tips, Ends})

    def within(self, told, stretches):
        for values in (told.low_values, told.high_values):
            self.assertEqual([letter for letter, _ in values], sorted(row[0] for row in stretches))
            for (_, size), (_, low, high) in zip(values, sorted(stretches)):
                self.assertTrue(fraction(low) <= fraction(size) <= fraction(high))

    def test_greatest_showing(self):
        seen = set()
        for name, one in castings(34, 6):
            stretches = some_stretches(one, name)
            for loads in list(some_loads(one.scale.places))[1:7]:
                told = greatest_showing(one, stretches, loads)
                seen.add(type(told))
                lean = lean_by_solving(one.scale.places, loads)
                if not lean:
                    self.assertEqual(told, Tips(range_of(one.scale, loads).side))
                    continue
                self.assertIs(type(told), Most)
                self.assertTrue(fits(one.scale.places, loads, told.pushes))
                self.assertTrue(all(size in row[1:] for (_, size), row in zip(told.at_values, sorted(stretches))))
                self.assertEqual([letter for letter, _ in told.at_values], list(one.letters))
                self.tuples((told.showing, told.pushes, tuple(size for _, size in told.at_values)))
                row = factors_with(one, dict(told.at_values))
                self.assertEqual(sum(a * fraction(b) for a, b in zip(row, told.pushes)), fraction(told.showing))
                rows = [factors_with(one, values) for values in ends_within(stretches)]
                rows += [factors_with(one, values) for values in between(stretches, 6)]
                sizes = [sum(a * b for a, b in zip(row, pushes)) for row in rows for pushes in lean]
                self.assertEqual(max(sizes), fraction(told.showing))
        self.assertEqual(seen, {Tips, Most})

    def test_both_greatest_ones_agree(self):
        for name, one in castings(35, 6):
            stretches = some_stretches(one, name)
            for loads in some_loads(one.scale.places):
                try:
                    told = showing_range(one, stretches, loads)
                except TwoWays:
                    continue
                most = greatest_showing(one, stretches, loads)
                self.assertEqual(getattr(told, "greatest", told), getattr(most, "showing", most))

    def test_a_letter_of_two_ways(self):
        # The letter is the seat of one leg and the out arm under another one: a peak at each end.
        one = ratio(1)
        made = Scale([Lever(one), Lever(one, 0, one)], [(0, one), (1, ratio(8))], corners()[:2])
        casting = Casting(made, [(("seat", 0), "a"), (("out", 1), "a")])
        loads = [(ratio(2), place(2, 0))]
        self.refuses(TwoWays, ("a",), showing_range, casting, [("a", one, ratio(4))], loads)
        for low, high, showing, at in ((1, 4, 9, 1), (1, 9, "89/9", 9), (2, 4, 6, 2), (4, 4, 6, 4)):
            told = greatest_showing(casting, [("a", ratio(low), ratio(high))], loads)
            self.assertEqual((told.showing, told.at_values), (ratio(showing), (("a", ratio(at)),)))
        # The refusal stands even for a stretch of one size, and comes before the loads tip.
        self.refuses(TwoWays, ("a",), showing_range, casting, [("a", one, one)], loads)
        self.refuses(TwoWays, ("a",), showing_range, casting, [("a", one, one)], [(one, place(9, 9))])

    def test_loads_of_weight_0_and_none(self):
        zero = ratio(0)
        for loads in ((), ((zero, place(99, 99)),)):
            for casting in (Casting(scale(), ()), Casting(scale(), [(("seat", 0), "a")])):
                stretches = [("a", ratio(1), ratio(2))] if casting.letters else []
                told = showing_range(casting, stretches, loads)
                self.assertEqual((told.least, told.greatest), (zero, zero))
                most = greatest_showing(casting, stretches, loads)
                self.assertEqual((most.showing, most.pushes), (zero, (zero,) * 5))

    def test_sides(self):
        casting = Casting(dict(scales())["even"], ())
        sides = sides_of(corners())
        for where, side in ((place(2, -1), 0), (place(5, 1), 1), (place(5, 3), 1), (place(-1, 1), 3)):
            for call in (showing_range, greatest_showing):
                self.assertEqual(call(casting, (), [(ratio(1), where)]), Tips(sides[side]))

    def test_order_of_errors(self):
        two = Casting(Scale([Lever(ratio(1))], [(0, ratio(1))] * 2, corners()[:2]), [(("seat", 0), "b")])
        bad = [(ratio(-1), place(0, 0))]
        for call in (showing_range, greatest_showing):
            self.refuses(BadStretches, (0, "missing"), call, two, [], bad)
            self.refuses(BadLoads, (0, "weight"), call, two, [("b", ratio(1), ratio(1))], bad)
        made = Scale([Lever(ratio(1)), Lever(ratio(1), 0, ratio(1))], [(0, ratio(1)), (1, ratio(8))], corners()[:2])
        casting = Casting(made, [(("seat", 0), "d"), (("out", 1), "d"), (("inward", 1), "c"), (("out", 0), "c")])
        rows = [("d", ratio(1), ratio(1)), ("c", ratio(1), ratio(1))]
        self.refuses(BadLoads, (0, "weight"), showing_range, casting, rows, bad)
        self.refuses(TwoWays, ("d",), showing_range, casting, rows, [(ratio(1), place(9, 9))])
        self.takes_lists(greatest_showing, casting, rows, [(ratio(1), place(1, 0))])
        self.takes_lists(showing_range, two, [("b", ratio(1), ratio(3))], [(ratio(1), place(1, 0))])
        self.assertEqual(monomial_of(casting, 1).powers, (("d", -1),))


if __name__ == "__main__":
    unittest.main()
