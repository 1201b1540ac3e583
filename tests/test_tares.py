"""Point 9.10: loads and poises laid one after another against an unknown tare."""

import random
import unittest
from fractions import Fraction

from tests.helper import Case, NOT_ARM_SIZES, NOT_SEQUENCES, NOT_WHOLE, SMALL, fraction, ratio
from wherelaid.errors import BadMany, BadReading, NoLoad
from wherelaid.readings import NoCase
from wherelaid.spans import Span
from wherelaid.tares import tare_span

ZERO, ONE = ratio(0), ratio(1)
NEAR = Fraction(1, 10 ** 25)
SIGNS = ("thing", "tare", "even")


def poise(size, sign):
    return ("poise", ratio(size), sign)


def load(number, sign):
    return ("load", number, sign)


def sign_of(weight, balance):
    return "thing" if weight > balance else "tare" if weight < balance else "even"


def balances(rows):
    """What the poises let the balancing weight be: some weights that stand for all there are."""
    sizes = sorted({fraction(what) for word, what, _ in rows if word == "poise"})
    if not sizes:
        return [Fraction(1)]
    tried = [*sizes, *[(a + b) / 2 for a, b in zip(sizes, sizes[1:])], sizes[0] / 2, sizes[-1] * 2]
    return [one for one in tried
            if all(sign_of(fraction(what), one) == sign for word, what, sign in rows if word == "poise")]


def can_keep(rows):
    """Whether some weights above 0 keep all rows: then each load has one sign."""
    signs = {}
    for word, what, sign in rows:
        if word == "load" and signs.setdefault(what, sign) != sign:
            return False
    return bool(balances(rows))


def with_weight(rows, number, weight):
    """Whether some weights keep the rows of which the load of this number has this one."""
    as_poise = [("poise", ratio(weight), sign) if (word, what) == ("load", number) else (word, what, sign)
                for word, what, sign in rows]
    return can_keep(as_poise)


def some_rows(seed, rounds=120):
    lot = random.Random(seed)
    for number in range(rounds):
        many = 1 + number % 4
        weights = [Fraction(lot.randint(1, 8), 2) for _ in range(many)]
        balance = lot.choice((1, 2, Fraction(5, 2)))
        rows = []
        for _ in range(lot.randint(0, 8) if number % 13 else 24):
            if lot.random() < 0.5:
                own = lot.randrange(many)
                row = ("load", own, sign_of(weights[own], balance))
            else:
                size = lot.choice((1, 2, 3, Fraction(1, 2), Fraction(5, 2), Fraction(9, 4)))
                row = ("poise", ratio(size), sign_of(size, balance))
            if number % 3 == 0 and lot.random() < 0.2:
                row = (*row[:2], lot.choice(SIGNS))
            rows.append(row)
        yield many, tuple(rows)


class Tares(Case):

    def check(self, many, rows, number):
        told = self.takes_lists(tare_span, many, rows, number)
        if not can_keep(rows):
            self.assertIs(type(told), NoCase)
            self.tuples(told.rows)
            one, other = told.rows
            self.assertLess(one, other)
            self.assertFalse(can_keep((rows[one], rows[other])))
            return told
        self.assertIs(type(told), Span)
        least = fraction(told.least)
        greatest = least + 10 ** 30 if told.greatest is None else fraction(told.greatest)
        way = greatest - least
        for part in (NEAR, Fraction(1, 2), 1 - NEAR):
            self.assertTrue(with_weight(rows, number, least + part * way))
        if least > 0:
            self.assertFalse(with_weight(rows, number, least * (1 - NEAR)))
        if told.greatest is not None:
            self.assertFalse(with_weight(rows, number, greatest * (1 + NEAR)))
        return told

    def test_samples(self):
        rows = (poise(3, "tare"), poise(5, "thing"), load(0, "even"), load(1, "thing"), load(2, "tare"))
        for number, want in ((0, (3, 5)), (1, (3, None)), (2, (0, 5)), (3, (0, None))):
            least, greatest = want
            self.assertEqual(self.check(4, rows, number), Span(ratio(least), None if greatest is None else ratio(greatest)))
        self.assertEqual(self.check(1, (), 0), Span(ZERO, None))
        self.assertEqual(self.check(1, (load(0, "even"),), 0), Span(ZERO, None))
        just = (poise("7/2", "even"), load(0, "even"), load(1, "thing"))
        self.assertEqual(self.check(2, just, 0), Span(ratio("7/2"), ratio("7/2")))
        self.assertEqual(self.check(2, just, 1), Span(ratio("7/2"), None))
        self.assertEqual(self.check(2, (poise(3, "tare"), poise(4, "tare"), poise(9, "thing"), poise(8, "thing"), load(0, "even")), 0),
                         Span(ratio(4), ratio(8)))

    def test_rows_that_clash(self):
        for rows, want in (((poise(3, "thing"), poise(3, "tare")), (0, 1)), ((poise(3, "even"), load(0, "even"), poise(3, "tare")), (0, 2)),
                           ((poise(3, "even"), poise(4, "even")), (0, 1)), ((poise(4, "tare"), poise(3, "thing")), (0, 1)),
                           ((load(0, "thing"), load(1, "tare"), load(0, "even")), (0, 2)),
                           ((load(1, "thing"), load(1, "thing"), load(1, "tare")), (0, 2))):
            self.assertIs(type(self.check(2, rows, 0)), NoCase)
            self.assertTrue(rows[0] == rows[1] or tare_span(2, rows, 0) == NoCase(want))
        # The rows of another load count as well.
        self.assertIs(type(self.check(2, (load(1, "thing"), load(1, "tare")), 0)), NoCase)
        self.assertIs(type(self.check(2, (poise(3, "even"), poise(3, "even"), load(0, "even")), 0)), Span)
        self.assertIs(type(self.check(2, (poise(3, "thing"), poise(2, "tare"), poise(3, "thing")), 0)), Span)

    def test_many(self):
        kinds = [0, 0]
        for many, rows in some_rows(1):
            for number in range(many):
                kinds[isinstance(self.check(many, rows, number), NoCase)] += 1
        self.assertGreater(min(kinds), 20, kinds)

    def test_great_numbers(self):
        rows = (("poise", (SMALL - 1, SMALL), "tare"), ("poise", (SMALL, SMALL - 1), "thing"), load(0, "even"))
        self.assertEqual(self.check(1, rows, 0), Span((SMALL - 1, SMALL), (SMALL, SMALL - 1)))

    def test_refusals(self):
        good = load(0, "thing")
        for many in NOT_WHOLE + (0, 5, -1):
            self.refuses(BadMany, (many,), tare_span, many, None, None)
        for thing in NOT_SEQUENCES + ((good,) * 25,):
            self.refuses(BadReading, (0, "many"), tare_span, 2, thing, None)
        for row in NOT_SEQUENCES + ((), good[:2], (*good, None), ("lode", 0, "thing"), ("lode", ONE, "thing"), (None, ONE, "thing"), (["load"], 0, "thing")):
            self.refuses(BadReading, (1, "reading"), tare_span, 2, (good, row, None), None)
        for number in NOT_WHOLE + (2, -1, ONE):
            self.refuses(BadReading, (1, "reading"), tare_span, 2, (good, ("load", number, "thing")), None)
        for size in NOT_ARM_SIZES:
            self.refuses(BadReading, (0, "reading"), tare_span, 2, [("poise", size, "even"), None], None)
        for sign in (None, True, 0, "load", "poise", "", "Even", ("even",), ["tare"]):
            self.refuses(BadReading, (1, "reading"), tare_span, 2, (good, ("load", 0, sign)), None)
            self.refuses(BadReading, (1, "reading"), tare_span, 2, (good, ("poise", ONE, sign)), None)
        for number in NOT_WHOLE + (2, -1):
            self.refuses(NoLoad, (number,), tare_span, 2, (good, load(0, "tare")), number)
        self.assertEqual(tare_span(2, (good,) * 24, 0), Span(ZERO, None))


if __name__ == "__main__":
    unittest.main()
