"""Points 6.5 and 6.6: plans, and numbers that they always tell."""

import random
import unittest
from fractions import Fraction

from tests.helper import (
    Case, LAYOUTS, NOT_ABOVE_ZERO, NOT_PLACES, NOT_RATIOS, NOT_SEQUENCES, corners, fits, fraction,
    lean_by_solving, place, plus_rows, ratio, small_layouts, spots,
)
from tests.test_fits import ONE
from wherelaid.errors import BadPlaces, BadPlan, BadRow
from wherelaid.hidden import hidden_legs
from wherelaid.hulls import one_way
from wherelaid.leasttests import least_tests
from wherelaid.places import mirror_place, shift_place, stretch_place, turn_place
from wherelaid.plans import Alike, Sure, check_plan, sure_legs, tells, tells_fault
from wherelaid.told import told_by

ZERO = ratio(0)
MIDDLE = place(2, 1)
NOT_PLANS = (
    (0, "many", None), (0, "many", (place(0, 0),) * 9), (1, "place", [place(0, 0), None, None]),
    (1, "outside", [place(0, 0), place(9, 9), None]))


def unit(legs, leg):
    return tuple(ONE if k == leg else ZERO for k in range(legs))


def row_of(*sizes):
    return tuple(ratio(size) for size in sizes)


class Checking(Case):

    def test_right_ones(self):
        plan = (place(0, 0), MIDDLE, place(4, 1), place(0, 0))
        self.assertEqual(self.takes_lists(check_plan, corners(), plan), plan)
        self.assertEqual(check_plan(corners(), ()), ())
        self.assertEqual(check_plan(corners(), plan * 2), plan * 2)

    def test_refusals(self):
        calls = ((check_plan, ()), (tells, (None,)), (tells_fault, (None, None)), (sure_legs, ()))
        for call, rest in calls:
            for index, word, plan in NOT_PLANS:
                self.refuses(BadPlan, (index, word), call, corners(), plan, *rest)
            for thing in NOT_SEQUENCES:
                self.refuses(BadPlan, (0, "many"), call, corners(), thing, *rest)
            for bad, told in ((None, (0, "many")), (corners()[:1], (0, "many")), (corners()[:2] * 2, (2, "twice"))):
                self.refuses(BadPlaces, told, call, bad, None, *rest)
        for thing in NOT_PLACES:
            self.refuses(BadPlan, (0, "place"), check_plan, corners(), (thing, place(9, 9)))
        self.refuses(BadPlan, (1, "outside"), check_plan, LAYOUTS["three in a row"], (place(0, 0), place(1, 1)))

    def test_refused_rows(self):
        plan = (place(0, 0),)
        for thing in NOT_SEQUENCES + ((), (ONE,) * 3, (ONE,) * 5):
            self.refuses(BadRow, (0,), tells, corners(), plan, thing)
            self.refuses(BadRow, (0,), tells_fault, corners(), plan, thing, None)
        for thing in NOT_RATIOS:
            self.refuses(BadRow, (2,), tells, corners(), plan, (ONE, ZERO, thing, None))
            self.refuses(BadRow, (0,), tells_fault, corners(), plan, (thing, ZERO, thing, None), None)
        self.assertIs(type(tells(corners(), plan, [(10 ** 200, 3)] * 4)), Alike)


class Telling(Case):

    def check(self, places, plan, row):
        """Check by the words of the document what is returned; return it."""
        told = tells(places, plan, row)
        lean = [lean_by_solving(places, [(ONE, where)]) for where in plan]
        if isinstance(told, Sure):
            self.tuples(told.amounts)
            self.assertEqual(len(told.amounts), len(plan))
            for amount, rows in zip(told.amounts, lean):
                self.assertTrue(len(rows) == 1 or amount == ZERO)
            for leg, number in enumerate(row):
                self.assertEqual(sum(fraction(a) * rows[0][leg] for a, rows in zip(told.amounts, lean)
                                     if len(rows) == 1), fraction(number))
        else:
            self.assertIs(type(told), Alike)
            for factors in (told.first, told.second):
                self.tuples(factors)
                self.assertEqual(len(factors), len(places))
                self.assertTrue(all(factor[0] > 0 for factor in factors))
            self.assertNotEqual(plus_rows(told.first, row), plus_rows(told.second, row))
            for pushes in (told.first_pushes, told.second_pushes):
                self.tuples(pushes)
                self.assertEqual(len(pushes), len(plan))
                self.assertTrue(all(fits(places, [(ONE, where)], one) for where, one in zip(plan, pushes)))
            for one, two in zip(told.first_pushes, told.second_pushes):
                self.assertEqual(plus_rows(one, told.first), plus_rows(two, told.second))
        self.assertIsNone(tells_fault(places, plan, row, told))
        return told

    def test_samples(self):
        places = corners()
        plan = (place(0, 0), place(2, 0), MIDDLE, place(4, 1))
        self.assertEqual(self.check(places, plan, unit(4, 0)), Sure((ONE, ZERO, ZERO, ZERO)))
        self.assertEqual(self.check(places, plan, unit(4, 1)), Sure(row_of(-1, 2, 0, 0)))
        self.assertEqual(self.check(places, plan, unit(4, 2)), Sure(row_of(1, -2, 0, 2)))
        self.assertIs(type(self.check(places, plan, unit(4, 3))), Alike)
        self.assertEqual(self.check(places, plan, row_of(0, 0, 0, 0)), Sure((ZERO,) * 4))
        # The mean of all factors is not told by the middle, for it is shared.
        self.assertIs(type(self.check(places, (MIDDLE,), (ratio("1/4"),) * 4)), Alike)
        self.assertIs(type(self.check(places, (), unit(4, 2))), Alike)
        self.assertEqual(self.check(places, (), (ZERO,) * 4), Sure(()))
        self.assertEqual(sure_legs(places, plan), (0, 1, 2))
        self.assertEqual(sure_legs(places, (MIDDLE,) * 8), ())

    def test_equal_places(self):
        told = self.check(corners(), (place(2, 0),) * 3, row_of(1, 1, 0, 0))
        self.assertIs(type(told), Sure)
        self.assertIs(type(self.check(corners(), (place(2, 0),) * 8, row_of(1, 2, 0, 0))), Alike)

    def test_all_layouts(self):
        lot = random.Random(2)
        kinds = {}
        for name, places in small_layouts():
            legs = len(places)
            for number in range(5):
                plan = tuple(spots(places, f"{name} {number}", (8, 3, 5, 8, 4)[number]))
                rows = [unit(legs, lot.randrange(legs)), (ratio("1/2"),) * legs,
                        tuple(ratio(Fraction(lot.randint(-3, 3), 2)) for _ in range(legs))]
                ways = [lean_by_solving(places, [(ONE, where)]) for where in plan]
                only = [row[0] for row in ways if len(row) == 1]
                if only:
                    rows.append(tuple(ratio(sum(row[leg] * (k - 1) for k, row in enumerate(only)))
                                      for leg in range(legs)))
                for row in rows:
                    told = self.check(places, plan, row)
                    kinds[type(told)] = kinds.get(type(told), 0) + 1
                if only:
                    self.assertIs(type(told), Sure)
                self.takes_lists(tells, places, plan, rows[-1])
                self.takes_lists(tells_fault, places, plan, rows[-1], told)
                sure = self.takes_lists(sure_legs, places, plan)
                self.assertEqual(sure, tuple(leg for leg in range(legs)
                                             if isinstance(tells(places, plan, unit(legs, leg)), Sure)))
        self.assertTrue(min(kinds.values()) > 40, kinds)

    def test_shared_places_that_nearly_any_factors_hide(self):
        # Powers of 2 and of 3 show one thing for some pairs of pushes: other factors are needed.
        for places in (LAYOUTS["crossed"], LAYOUTS["hexagon"], LAYOUTS["grid"], LAYOUTS["six in a row"]):
            legs = len(places)
            plan = tuple(where for where in spots(places, 17, 40) if not one_way(places, where))[:8]
            self.assertEqual(len(plan), 8)
            for leg in range(legs):
                self.assertIs(type(self.check(places, plan, unit(legs, leg))), Alike)

    def test_a_number_that_powers_hide(self):
        # The factors 1, 2 and 4 are in one plane here: they show alike for all pushes that fit.
        row = (place(0, 0), place(1, 0), place(3, 0))
        for plan in ((place(2, 0),), (place("1/2", 0), place(1, 0)), (place(3, 0), place("5/2", 0))):
            for numbers in (unit(3, 0), unit(3, 1), row_of(1, 1, 1)):
                self.assertIs(type(self.check(row, plan, numbers)), Alike)
        # And the factors 1, 3, 9 and 27 are in one plane here, 1, 2, 4 and 8 are not.
        four = (place(0, 0), place(1, 0), place(4, 0), place(13, 0))
        for number in range(1, 13):
            self.assertIs(type(self.check(four, (place(number, 0),), unit(4, 0))), Alike)

    def test_led_along(self):
        size, by = ratio("3/2"), place("-7/3", 5)
        leads = (lambda one: shift_place(one, by), turn_place, mirror_place, lambda one: stretch_place(one, size))
        for name, places in small_layouts():
            plan = tuple(spots(places, name, 6))
            pool = tuple(places) + plan[:1]
            tests = tuple((where, ratio(k + 1)) for k, where in enumerate(plan))
            for lead in leads:
                led = [tuple(lead(one) for one in row) for row in (places, plan, pool)]
                self.assertEqual(sure_legs(led[0], led[1]), sure_legs(places, plan), name)
                row = tells(places, plan, unit(len(places), 0))
                self.assertEqual(type(tells(led[0], led[1], unit(len(places), 0))), type(row))
                self.assertIsNone(tells_fault(led[0], led[1], unit(len(places), 0), row))
                self.assertEqual(least_tests(led[0], led[2], "all"), least_tests(places, pool, "all"))
                self.assertEqual(hidden_legs(led[0]), hidden_legs(places))
                told = told_by(places, tests)
                other = told_by(led[0], [(lead(where), showing) for where, showing in tests])
                self.assertEqual(type(other), type(told))
                self.assertEqual(getattr(other, "sure", None), getattr(told, "sure", None))

    def test_great_numbers(self):
        places = LAYOUTS["great"]
        plan = (places[0], places[1], places[2], places[4])
        for leg in range(6):
            told = self.check(places, plan, unit(6, leg))
            hull = one_way(places, places[leg]) and leg in (0, 1, 2, 4)
            self.assertEqual(isinstance(told, Sure), hull)


class Judging(Case):

    PLAN = (place(0, 0), place(2, 0), MIDDLE, place(4, 1))

    def judge(self, row, told):
        return tells_fault(corners(), self.PLAN, row, told)

    def test_kinds(self):
        for thing in (None, True, 0, "sure", (), [], (ONE,) * 4, Sure, Alike):
            self.assertEqual(self.judge(unit(4, 0), thing), "kind")

    def test_sure(self):
        row = unit(4, 1)
        self.assertIsNone(self.judge(row, Sure(row_of(-1, 2, 0, 0))))
        for amounts in NOT_SEQUENCES + (
                (), row_of(-1, 2, 0), row_of(-1, 2, 0, 0, 0), (ratio(-1), ratio(2), 0, ZERO), (ONE, None, ZERO, ZERO),
                (ratio(-1), (4, 2), ZERO, ZERO), (True, ONE, ONE, ONE)):
            self.assertEqual(self.judge(row, Sure(amounts)), "many")
        for amounts in (row_of(-1, 2, 1, 0), row_of(0, 0, "1/99", 0)):
            self.assertEqual(self.judge(row, Sure(amounts)), "shared")
        for amounts in (row_of(-1, 1, 0, 0), row_of(-1, 2, 0, 1), row_of(0, 0, 0, 0), row_of(1, 2, 0, 0)):
            self.assertEqual(self.judge(row, Sure(amounts)), "sum")
        self.assertEqual(self.judge(row_of(0, 1, 0, "1/9"), Sure(row_of(-1, 2, 0, 0))), "sum")

    def made(self, **parts):
        row = dict(vars(tells(corners(), self.PLAN, unit(4, 3))))
        row.update(parts)
        return Alike(**row)

    def test_alike(self):
        row = unit(4, 3)
        good = self.made()
        self.assertIsNone(self.judge(row, good))
        other = Alike(good.second, good.first, good.second_pushes, good.first_pushes)
        self.assertIsNone(self.judge(row, other))
        wrong = NOT_SEQUENCES + ((), good.first[:3], good.first + (ONE,), (ONE, ONE, ONE, None))
        for factors in wrong + tuple((size,) + good.first[1:] for size in NOT_ABOVE_ZERO):
            self.assertEqual(self.judge(row, self.made(first=factors, second=None)), "first")
            self.assertEqual(self.judge(row, self.made(second=factors, first_pushes=None)), "second")
        self.assertEqual(self.judge(row, self.made(second=good.first, first_pushes=None)), "number")
        self.assertEqual(self.judge(row_of(1, 0, 0, 0), good), "number")
        for pushes in NOT_SEQUENCES + (
                (), good.first_pushes[:3], good.first_pushes + good.first_pushes[:1], (None,) * 4,
                good.first_pushes[::-1], (row_of(1, 0, 0, 1),) + good.first_pushes[1:],
                (row_of(1, 0, 0),) + good.first_pushes[1:],
                good.first_pushes[:2] + (row_of("3/4", "-1/4", "3/4", "-1/4"),) + good.first_pushes[3:]):
            self.assertEqual(self.judge(row, self.made(first_pushes=pushes, second_pushes=None)), "first pushes")
            self.assertEqual(self.judge(row, self.made(second_pushes=pushes)), "second pushes")

    def test_showings(self):
        row = unit(4, 3)
        first, second = row_of(1, 1, 1, 1), row_of(1, 1, 1, 2)
        ends = [row_of(1, 0, 0, 0), row_of("1/2", "1/2", 0, 0)], [row_of(0, "1/2", "1/2", 0)]
        across, along = row_of("1/2", 0, "1/2", 0), row_of(0, "1/2", 0, "1/2")
        for pushes, others, want in ((along, across, None), (across, across, None), (across, along, "showing")):
            told = Alike(first, second, (*ends[0], pushes, *ends[1]), (*ends[0], others, *ends[1]))
            self.assertEqual(self.judge(row, told), want)
        changed = Alike(row_of(2, 1, 1, 1), second, (*ends[0], along, *ends[1]), (*ends[0], across, *ends[1]))
        self.assertEqual(self.judge(row, changed), "showing")

    def test_equality(self):
        self.told_apart(Sure((ONE,)), {"amounts": ()})
        self.told_apart(Alike((ONE,), (ZERO,), ((ONE,),), ((ZERO,),)),
                        {"first": (), "second": (), "first_pushes": (), "second_pushes": ()})


if __name__ == "__main__":
    unittest.main()
