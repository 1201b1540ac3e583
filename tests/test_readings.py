"""Points 9.7 and 9.8: readings of unknown loads on unknown pans, and the cases that keep them."""

import random
import unittest
from fractions import Fraction
from math import isqrt

from tests.helper import Case, NOT_ABOVE_ZERO, NOT_ARM_SIZES, NOT_SEQUENCES, NOT_WHOLE, SMALL, fraction, ratio
from tests.test_pans import NOT_PANS
from wherelaid.errors import BadMany, BadReading
from wherelaid.pans import Pans
from wherelaid.readings import NoCase, PansCase, case_fault, check_readings, fitting_case

ZERO, ONE = ratio(0), ratio(1)
SIGNS = ("load", "poise", "even")


def left(load, poise, sign):
    return (load, "left", ratio(poise), sign)


def right(load, poise, sign):
    return (load, "right", ratio(poise), sign)


def keeps(readings, case):
    """Whether the case keeps all readings, by the words of the document."""
    quotient = fraction(case.quotient)
    for load, pan, poise, sign in readings:
        square, against = fraction(case.squares[load]), fraction(poise) ** 2
        if pan == "left":
            against *= quotient
        else:
            square *= quotient
        if (square > against, square < against, square == against) != (sign == "load", sign == "poise", sign == "even"):
            return False
    return True


def rows_of(many, readings):
    """For each load rows (sign, size, power): its square is above, below or equal to size * T ** power."""
    rows = [[] for _ in range(many)]
    for load, pan, poise, sign in readings:
        word = {"load": ">", "poise": "<", "even": "="}[sign]
        rows[load].append((word, fraction(poise) ** 2, 1 if pan == "left" else -1))
    return rows


def root(size):
    """The root of a square of a Fraction."""
    found = Fraction(isqrt(size.numerator), isqrt(size.denominator))
    assert found ** 2 == size
    return found


def is_open(lows, highs):
    """Whether some size above 0 lies between couples (size, whether the size itself is let)."""
    for low, low_let in lows:
        for high, high_let in highs:
            if low > high or (low == high and not (low_let and high_let)):
                return False
    return all(high > 0 for high, _ in highs)


def lets(rows, quotient):
    """Whether some square meets all of these rows with this T."""
    sizes = [(word, size * quotient ** power) for word, size, power in rows]
    lows = [(size, word == "=") for word, size in sizes if word in ">="]
    highs = [(size, word == "=") for word, size in sizes if word in "<="]
    return is_open(lows, highs)


def can_be(groups):
    """Whether some T and one square for each list of rows meet all of them.

    Only where two rows meet a list can come to be met, or no longer: there, between such places
    and beyond them is tried.
    """
    ends = set()
    for rows in groups:
        for _, size, power in rows:
            for _, other, other_power in rows:
                if power - other_power == 2:
                    ends.add(root(other / size))
                if power - other_power == 1:
                    ends.add(other / size)
    ends = sorted(ends) or [Fraction(1)]
    tried = [*ends, *[(a + b) / 2 for a, b in zip(ends, ends[1:])], ends[0] / 2, ends[-1] + 1]
    return any(all(lets(rows, quotient) for rows in groups) for quotient in tried)


def can_keep(many, readings):
    return can_be(rows_of(many, readings))


def some_readings(seed, rounds=80, most=8):
    """Couples (many, readings): told of a true case, and some of them changed."""
    lot = random.Random(seed)
    for number in range(rounds):
        many = 1 + number % 4
        weights = [Fraction(lot.randint(1, 6), lot.choice((1, 2))) for _ in range(many)]
        choices = (1, 2, Fraction(1, 2), Fraction(3, 2))
        # Some loads were weighed on other pans, which only all their readings together tell.
        quotients = [lot.choice(choices)] * many
        if number % 3 == 1:
            quotients = [lot.choice(choices) for _ in range(many)]
        rows = []
        for _ in range(lot.randint(0, most) if number % 11 else 24):
            load, pan = lot.randrange(many), lot.choice(("left", "right"))
            just = weights[load] / quotients[load] if pan == "left" else weights[load] * quotients[load]
            poise = just * lot.choice((1, 1, Fraction(1, 2), Fraction(9, 10), Fraction(5, 4), 3))
            sign = "even" if poise == just else "load" if poise < just else "poise"
            if number % 3 == 0 and lot.random() < 0.2:
                sign = lot.choice(SIGNS)
            rows.append((load, pan, ratio(poise), sign))
            if lot.random() < 0.1:
                rows.append(rows[-1])
        yield many, tuple(rows[:24])


class Checks(Case):

    def test_right_ones(self):
        rows = (left(0, 1, "load"), right(1, "3/2", "even"), left(3, SMALL, "poise"))
        self.assertEqual(self.takes_lists(check_readings, 4, rows), rows)
        self.assertTrue(all(type(row) is tuple for row in check_readings(4, [list(row) for row in rows])))
        self.assertEqual(check_readings(1, []), ())
        self.assertEqual(check_readings(1, (left(0, 1, "even"),) * 24), (left(0, 1, "even"),) * 24)

    def test_refusals(self):
        good = left(0, 1, "load")
        for call, rest in ((check_readings, ()), (case_fault, (None,)), (fitting_case, ())):
            for many in NOT_WHOLE + (0, 5, -1):
                self.refuses(BadMany, (many,), call, many, None, *rest)
            for thing in NOT_SEQUENCES + ((good,) * 25,):
                self.refuses(BadReading, (0, "many"), call, 2, thing, *rest)
            for row in NOT_SEQUENCES + ((), good[:3], (*good, None), ("left", 0, ONE, "load")):
                self.refuses(BadReading, (1, "reading"), call, 2, (good, row, None), *rest)
            for load in NOT_WHOLE + (2, -1):
                self.refuses(BadReading, (1, "reading"), call, 2, (good, (load, *good[1:])), *rest)
            for pan in NOT_PANS:
                self.refuses(BadReading, (0, "reading"), call, 2, [(0, pan, ONE, "load"), None], *rest)
            for poise in NOT_ARM_SIZES:
                self.refuses(BadReading, (1, "reading"), call, 2, (good, (0, "left", poise, "load")), *rest)
            for sign in (None, True, 0, "left", "thing", "", "Load", ("load",), ["even"]):
                self.refuses(BadReading, (1, "reading"), call, 2, (good, (0, "left", ONE, sign)), *rest)


class Judging(Case):

    ROWS = (left(0, 2, "load"), right(0, 8, "even"), left(1, 5, "poise"))

    def judge(self, squares=(ratio(16), ratio(4)), quotient=ratio(4), rows=ROWS):
        return case_fault(2, rows, PansCase(squares, quotient))

    def test_right_cases(self):
        # With T = 4 the left poises count twice, the right ones half.
        self.assertEqual(self.judge(), "reading")
        self.assertIsNone(self.judge((ratio(16), ratio(4)), ratio(4), (left(0, 2, "even"), right(0, 8, "even"), left(1, 1, "even"))))
        self.assertIsNone(self.judge((ratio(16), ratio(4)), ratio(4), (left(0, "199/100", "load"), right(0, "801/100", "poise"))))
        self.assertIsNone(self.judge((ratio(16), ratio(4)), ratio(4), (left(0, "201/100", "poise"), right(0, "799/100", "load"))))
        self.assertIsNone(self.judge((ratio(2), ratio(3)), ratio(5), ()))
        for row in (left(0, 2, "load"), left(0, 2, "poise"), right(0, 8, "load"), right(0, 8, "poise"), left(1, 2, "load"),
                    right(1, 4, "load"), left(0, "201/100", "even"), right(1, 3, "even")):
            self.assertEqual(self.judge((ratio(16), ratio(4)), ratio(4), (row,)), "reading")

    def test_squares(self):
        for thing in NOT_SEQUENCES + ((), [ONE, ONE], (ONE,), (ONE,) * 3, (1, 2)):
            self.assertEqual(self.judge(thing, None), "squares")
        for size in NOT_ABOVE_ZERO:
            self.assertEqual(self.judge((ONE, size), None), "squares")
            self.assertEqual(self.judge((size, ONE)), "squares")
        for thing in (None, 0, True, "case", (), [], ((ONE, ONE), ONE), PansCase, NoCase((0, 1)), Pans(ONE, ONE)):
            self.assertEqual(case_fault(2, self.ROWS, thing), "squares")

    def test_quotients(self):
        for size in NOT_ABOVE_ZERO:
            self.assertEqual(self.judge((ONE, ONE), size), "quotient")
        self.assertEqual(self.judge((ONE, ONE), ONE), "reading")

    def test_by_the_words(self):
        lot = random.Random(3)
        kinds = [0, 0]
        for many, rows in some_readings(2):
            for _ in range(3):
                case = PansCase(tuple(ratio(lot.choice((1, 4, 9, 2, "9/4"))) for _ in range(many)), ratio(lot.choice((1, 4, "1/4"))))
                told = self.takes_lists(case_fault, many, rows, case)
                self.assertEqual(told, None if keeps(rows, case) else "reading")
                kinds[told is None] += 1
        self.assertGreater(min(kinds), 20, kinds)


class Fitting(Case):

    def check(self, many, rows):
        told = self.takes_lists(fitting_case, many, rows)
        if can_keep(many, rows):
            self.assertIs(type(told), PansCase)
            self.tuples((told.squares, told.quotient))
            self.assertEqual(len(told.squares), many)
            self.assertTrue(all(size[0] > 0 for size in (*told.squares, told.quotient)))
            self.assertTrue(keeps(rows, told))
            self.assertIsNone(case_fault(many, rows, told))
        else:
            self.no_case(many, rows, told)
        return told

    def no_case(self, many, rows, told):
        """Check that this is a NoCase that is right."""
        self.assertIs(type(told), NoCase)
        self.tuples(told.rows)
        self.assertEqual(list(told.rows), sorted(set(told.rows)))
        self.assertTrue(2 <= len(told.rows) <= 4)
        self.assertFalse(can_keep(many, [rows[number] for number in told.rows]))

    def test_samples(self):
        self.check(1, ())
        self.check(4, (left(2, 3, "even"),))
        self.assertEqual(self.check(1, (left(0, 3, "load"), left(0, 2, "poise"))), NoCase((0, 1)))
        self.assertEqual(self.check(1, (right(0, 3, "load"), left(0, 9, "load"), right(0, 3, "poise"))), NoCase((0, 2)))
        self.assertEqual(self.check(1, (left(0, 3, "even"), left(0, 3, "load"))), NoCase((0, 1)))
        self.assertEqual(self.check(1, (left(0, 3, "poise"), left(0, 3, "even"))), NoCase((0, 1)))
        # Load 0 tells that T is 4 at least, load 1 that it is below 4 at most.
        rows = (left(0, 2, "even"), right(0, 8, "even"), left(1, 1, "load"), right(1, 4, "poise"))
        self.assertEqual(self.check(2, rows), NoCase((0, 1, 2, 3)))
        self.check(2, (*rows[:3], right(1, "401/100", "poise")))
        self.check(2, (*rows[:2], left(1, 1, "even"), right(1, 4, "even")))
        self.check(2, (*rows[:2], left(1, 1, "even"), right(1, 4, "poise")))
        self.check(2, (*rows[:2], left(1, 1, "even"), right(1, 4, "load")))

    def test_both_ways(self):
        kinds = {}
        for many, rows in some_readings(4, 160):
            told = self.check(many, rows)
            kind = len(told.rows) if isinstance(told, NoCase) else 0
            kinds[kind] = kinds.get(kind, 0) + 1
        self.assertGreater(kinds[0], 60)
        self.assertTrue(kinds[2] > 3 and sum(kinds.get(size, 0) for size in (3, 4)) > 3, kinds)

    def test_true_cases(self):
        # What true pans and weights tell is always kept by some case.
        lot = random.Random(5)
        for _ in range(40):
            pans = Pans(ratio(lot.randint(1, 9)), ratio(lot.randint(1, 9)))
            weights = [ratio(lot.randint(1, 9)) for _ in range(4)]
            rows = []
            for _ in range(24):
                load, pan, poise = lot.randrange(4), lot.choice(("left", "right")), ratio(Fraction(lot.randint(1, 40), 4))
                both = (weights[load], poise) if pan == "left" else (poise, weights[load])
                sinks = pans.sinks(*both)
                rows.append((load, pan, poise, "even" if sinks == "even" else "load" if sinks == pan else "poise"))
            true = PansCase(tuple(ratio(fraction(weight) ** 2) for weight in weights), ratio(fraction(pans.quotient) ** 2))
            self.assertIsNone(case_fault(4, rows, true))
            self.assertIsNone(case_fault(4, rows, fitting_case(4, rows)))

    def test_great_numbers(self):
        rows = ((0, "left", (SMALL, SMALL - 1), "load"), (0, "right", (SMALL - 1, SMALL), "poise"),
                (1, "left", (1, SMALL), "even"), (1, "right", (SMALL, 1), "even"))
        self.check(2, rows)
        self.check(2, rows[:2])
        self.check(2, (*rows[:1], (0, "right", (SMALL, SMALL - 1), "even"), *rows[2:]))


class Equality(Case):

    def test_equality(self):
        self.told_apart(PansCase((ONE,), ratio(2)), {"squares": (ratio(2),), "quotient": ONE})
        self.told_apart(NoCase((0, 1)), {"rows": (0, 2)})


if __name__ == "__main__":
    unittest.main()
