"""Point 9.9: from where to where squares and quotients lie in all cases that keep readings."""

import random
import unittest
from fractions import Fraction

from tests.helper import Case, NOT_ABOVE_ZERO, NOT_WHOLE, SMALL, fraction, ratio
from tests.test_readings import can_be, can_keep, keeps, left, right, rows_of, some_readings
from wherelaid.errors import BadMany, BadReading, BadSquare, NoLoad
from wherelaid.pans import Pans
from wherelaid.readings import NoCase, PansCase, fitting_case
from wherelaid.spans import Span, arms_span, case_of_square, quotient_span, square_span

ZERO, ONE = ratio(0), ratio(1)
NEAR = Fraction(1, 10 ** 25)
# Load 0 just between 4 and 6 on the left, 9 and 16 on the right; load 1 is told on the left alone.
ROWS = (left(0, 4, "load"), left(0, 6, "poise"), right(0, 9, "load"), right(0, 16, "poise"), left(1, 2, "even"))


def with_square(many, rows, load, square):
    """Whether some case that keeps the readings has this square of the load."""
    groups = rows_of(many, rows)
    groups[load].append(("=", square, 0))
    return can_be(groups)


def with_arms(many, rows, quotient):
    """Whether some case that keeps the readings has this square of the quotient of the pans."""
    # A further load that is even with 1 on the left and with this on the right tells it.
    return can_be([*rows_of(many, rows), [("=", Fraction(1), 1), ("=", quotient ** 2, -1)]])


def with_quotient(many, rows, load, other, quotient):
    """Whether some case that keeps the readings has this quotient of the two weights."""
    groups = rows_of(many, rows)
    joined = groups[other] + [(word, size / quotient ** 2, power) for word, size, power in groups[load]]
    return can_be([joined, *[row for number, row in enumerate(groups) if number not in (load, other)]])


class Spans(Case):

    def ends(self, told, comes):
        """Check that just what is between the ends comes, by a function that tells whether it does."""
        self.assertIs(type(told), Span)
        self.tuples((told.least,) if told.greatest is None else (told.least, told.greatest))
        least = fraction(told.least)
        greatest = least * 10 ** 9 + 10 ** 30 if told.greatest is None else fraction(told.greatest)
        self.assertLessEqual(least, greatest)
        way = greatest - least
        if least == greatest:
            self.assertTrue(comes(least))
        for part in (NEAR, Fraction(1, 3), Fraction(1, 2), 1 - NEAR):
            if way:
                self.assertTrue(comes(least + part * way))
        if least > 0:
            self.assertFalse(comes(least * (1 - NEAR)))
            self.assertFalse(comes(least / 1000))
        if told.greatest is not None:
            self.assertFalse(comes(greatest * (1 + NEAR)))
            self.assertFalse(comes(greatest * 1000))

    def check(self, many, rows):
        """Check all spans of these readings; return the span of T."""
        if not can_keep(many, rows):
            want = fitting_case(many, rows)
            self.assertIs(type(want), NoCase)
            for told in (arms_span(many, rows), square_span(many, rows, many - 1),
                         quotient_span(many, rows, 0, many - 1), quotient_span(many, rows, 0, 0)):
                self.assertIs(type(told), NoCase)
                self.assertFalse(can_keep(many, [rows[number] for number in told.rows]))
            self.assertIsNone(case_of_square(many, rows, 0, ONE))
            return None
        arms = self.takes_lists(arms_span, many, rows)
        self.ends(arms, lambda size: with_arms(many, rows, size))
        for load in range(many):
            told = self.takes_lists(square_span, many, rows, load)
            self.ends(told, lambda size, load=load: with_square(many, rows, load, size))
            for other in range(many):
                told = self.takes_lists(quotient_span, many, rows, load, other)
                if load == other:
                    self.assertEqual(told, Span(ONE, ONE))
                else:
                    self.ends(told, lambda size, one=load, two=other: with_quotient(many, rows, one, two, size))
        return arms

    def test_samples(self):
        self.assertEqual(self.check(2, ROWS), Span(ratio("3/2"), ratio(4)))
        # From 4 * 9 to 6 * 16.
        self.assertEqual(square_span(2, ROWS, 0), Span(ratio(36), ratio(96)))
        self.assertEqual(square_span(2, ROWS, 1), Span(ratio(6), ratio(16)))
        self.assertEqual(quotient_span(2, ROWS, 0, 1), Span(ratio(2), ratio(3)))
        self.assertEqual(quotient_span(2, ROWS, 1, 0), Span(ratio("1/3"), ratio("1/2")))
        self.assertEqual(quotient_span(2, ROWS, 1, 1), Span(ONE, ONE))

    def test_arms_told_by_another_load(self):
        # Load 1 tells T = 9, load 0 is told on one pan alone.
        just = (left(1, 2, "even"), right(1, 18, "even"))
        self.assertEqual(self.check(2, (*just, left(0, 1, "load"), left(0, 5, "poise"))), Span(ratio(9), ratio(9)))
        self.assertEqual(square_span(2, (*just, left(0, 1, "load"), left(0, 5, "poise")), 0), Span(ratio(9), ratio(225)))
        self.assertEqual(square_span(2, (*just, right(0, 6, "load"), right(0, 9, "poise")), 0), Span(ratio(4), ratio(9)))
        self.assertEqual(quotient_span(2, (*just, right(0, 6, "load")), 0, 1), Span(ratio("1/3"), None))
        self.assertEqual(square_span(2, just, 1), Span(ratio(36), ratio(36)))
        self.check(2, (*just, right(0, 6, "load"), right(0, 9, "poise")))

    def test_no_bounds(self):
        self.assertEqual(self.check(2, ()), Span(ZERO, None))
        self.assertEqual(square_span(2, (), 1), Span(ZERO, None))
        self.assertEqual(quotient_span(2, (), 0, 1), Span(ZERO, None))
        one = (left(0, 3, "even"),)
        self.assertEqual(self.check(2, one), Span(ZERO, None))
        self.assertEqual(square_span(2, one, 0), Span(ZERO, None))
        # One pan alone tells quotients, though no squares.
        both = (left(0, 3, "load"), left(1, 2, "poise"))
        self.assertEqual(quotient_span(2, both, 0, 1), Span(ratio("3/2"), None))
        self.assertEqual(quotient_span(2, both, 1, 0), Span(ZERO, ratio("2/3")))
        self.check(2, both)
        self.assertEqual(self.check(1, (left(0, 3, "load"), right(0, 2, "poise"))), Span(ZERO, ratio("2/3")))
        self.assertEqual(self.check(1, (left(0, 3, "poise"), right(0, 2, "load"))), Span(ratio("2/3"), None))
        self.assertEqual(square_span(1, (left(0, 3, "poise"), right(0, 2, "poise")), 0), Span(ZERO, ratio(6)))
        self.assertEqual(square_span(1, (left(0, 3, "load"), right(0, 2, "load")), 0), Span(ratio(6), None))

    def test_many(self):
        kinds = [0, 0]
        for many, rows in some_readings(7, 110, 7):
            kinds[self.check(many, rows) is None] += 1
        self.assertGreater(min(kinds), 8, kinds)

    def test_exchanged_pans(self):
        # With left and right exchanged all squares and quotients stay, T is turned.
        for many, rows in some_readings(8, 40, 7):
            turned = tuple((load, "right" if pan == "left" else "left", poise, sign) for load, pan, poise, sign in rows)
            told, other = arms_span(many, rows), arms_span(many, turned)
            if isinstance(told, NoCase):
                self.assertIs(type(other), NoCase)
                continue
            self.assertEqual(other.least, ZERO if told.greatest is None else told.greatest[::-1])
            self.assertEqual(other.greatest, None if told.least == ZERO else told.least[::-1])
            for load in range(many):
                self.assertEqual(square_span(many, turned, load), square_span(many, rows, load))
                self.assertEqual(quotient_span(many, turned, load, 0), quotient_span(many, rows, load, 0))

    def test_true_pans_are_within(self):
        pans = Pans(ratio(5), ratio(7))
        for one in (pans, pans.exchanged()):
            rows = []
            for load, weight in enumerate((3, 4)):
                for pan in ("left", "right"):
                    just = one.poise_for(ratio(weight), pan)
                    below, above = fraction(just) * Fraction(99, 100), fraction(just) * Fraction(101, 100)
                    rows += [(load, pan, ratio(below), "load"), (load, pan, ratio(above), "poise")]
            for told, true in ((arms_span(2, rows), fraction(one.quotient) ** 2), (square_span(2, rows, 0), 9),
                               (square_span(2, rows, 1), 16), (quotient_span(2, rows, 0, 1), Fraction(3, 4))):
                self.assertTrue(fraction(told.least) < true < fraction(told.greatest))
                self.assertLess(fraction(told.greatest), fraction(told.least) * Fraction(11, 10))

    def test_great_numbers(self):
        rows = ((0, "left", (SMALL, SMALL - 1), "load"), (0, "left", (SMALL, 1), "poise"), (0, "right", (1, SMALL), "load"),
                (1, "right", (SMALL - 1, SMALL), "poise"), (1, "left", (1, SMALL), "load"))
        self.check(2, rows)

    def test_refusals(self):
        for call, rest in ((square_span, (None,)), (arms_span, ()), (quotient_span, (None, None)), (case_of_square, (None, None))):
            for many in NOT_WHOLE + (0, 5):
                self.refuses(BadMany, (many,), call, many, None, *rest)
            self.refuses(BadReading, (0, "many"), call, 2, None, *rest)
            self.refuses(BadReading, (1, "reading"), call, 2, (ROWS[0], left(2, 1, "even")), *rest)
        clash = (left(0, 3, "load"), left(0, 2, "poise"))
        for load in NOT_WHOLE + (2, -1):
            self.refuses(NoLoad, (load,), square_span, 2, clash, load)
            self.refuses(NoLoad, (load,), quotient_span, 2, clash, load, None)
            self.refuses(NoLoad, (load,), quotient_span, 2, clash, 1, load)
            self.refuses(NoLoad, (load,), case_of_square, 2, clash, load, None)
        for size in NOT_ABOVE_ZERO:
            self.refuses(BadSquare, (size,), case_of_square, 2, clash, 1, size)


class CasesOfSquares(Case):

    def check(self, many, rows, load, square):
        told = self.takes_lists(case_of_square, many, rows, load, ratio(square))
        if with_square(many, rows, load, square):
            self.assertIs(type(told), PansCase)
            self.tuples((told.squares, told.quotient))
            self.assertEqual((len(told.squares), told.squares[load]), (many, ratio(square)))
            self.assertTrue(keeps(rows, told))
        else:
            self.assertIsNone(told)
        return told is not None

    def test_samples(self):
        for square, want in ((36, False), (37, True), (95, True), (96, False), (1, False), (1000, False)):
            self.assertIs(self.check(2, ROWS, 0, Fraction(square)), want)
        for square, want in ((6, False), (7, True), (16, False)):
            self.assertIs(self.check(2, ROWS, 1, Fraction(square)), want)
        just = (left(0, 2, "even"), right(0, 18, "even"))
        self.assertTrue(self.check(1, just, 0, Fraction(36)))
        self.assertFalse(self.check(1, just, 0, 36 + NEAR))
        self.assertTrue(self.check(4, (), 3, Fraction(2, 7)))
        self.assertFalse(self.check(1, (left(0, 3, "load"), left(0, 2, "poise")), 0, Fraction(1)))

    def test_squares_at_the_ends(self):
        # The ends come where readings tell "even", not where they tell "load" or "poise".
        rows = (left(0, 4, "even"), right(0, 9, "load"))
        self.assertEqual(square_span(1, rows, 0), Span(ratio(36), None))
        self.assertFalse(self.check(1, rows, 0, Fraction(36)))
        rows = (left(0, 4, "even"), right(0, 9, "even"), left(1, 2, "even"), right(1, "9/2", "even"))
        self.assertTrue(self.check(2, rows, 0, Fraction(36)))
        self.assertTrue(self.check(2, rows, 1, Fraction(9)))

    def test_many(self):
        lot = random.Random(9)
        kinds = [0, 0]
        for many, rows in some_readings(10, 90, 7):
            load = lot.randrange(many)
            told = square_span(many, rows, load)
            squares = [Fraction(lot.randint(1, 60), lot.choice((1, 4)))]
            if isinstance(told, Span):
                least = fraction(told.least)
                squares += [size for size in (least, least * (1 - NEAR), least * (1 + NEAR)) if size > 0]
                if told.greatest is not None:
                    greatest = fraction(told.greatest)
                    squares += [greatest, greatest * (1 + NEAR), (least + greatest) / 2]
            for square in squares:
                kinds[self.check(many, rows, load, square)] += 1
        self.assertGreater(min(kinds), 40, kinds)


class Equality(Case):

    def test_equality(self):
        self.told_apart(Span(ZERO, ONE), {"least": ONE, "greatest": None})


if __name__ == "__main__":
    unittest.main()
