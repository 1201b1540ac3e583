"""Point 6.7: even plans."""

import random
import unittest
from fractions import Fraction
from itertools import product
from math import prod

from tests.helper import (
    Case, LAYOUTS, NOT_ABOVE_ZERO, NOT_SEQUENCES, corners, fits, lean_by_solving, place, plus_rows,
    small_layouts, spots,
)
from tests.test_fits import ONE
from tests.test_parts import determinant
from tests.test_plans import NOT_PLANS, row_of
from wherelaid.errors import BadPlaces, BadPlan, TooMany
from wherelaid.evenplans import Masked, even_plan, masked_fault

MIDDLE = place(2, 1)


def signs(places, plan):
    """The signs of the determinants for all choices of lean pushes."""
    lean = [lean_by_solving(places, [(ONE, where)]) for where in plan]
    found = set()
    for rows in product(*lean):
        size = determinant([list(row) for row in rows])
        found.add((size > 0) - (size < 0))
    return found


def choices(places, plan):
    return prod(len(lean_by_solving(places, [(ONE, where)])) for where in plan)


class EvenPlans(Case):

    def check(self, places, plan):
        """Check by the words of the document what is returned; return it."""
        told = even_plan(places, plan)
        self.assertEqual(told is None, signs(places, plan) in ({1}, {-1}))
        if told is not None:
            self.assertIs(type(told), Masked)
            self.tuples((told.unlike, told.pushes))
            self.assertEqual((len(told.unlike), len(told.pushes)), (len(places), len(plan)))
            self.assertTrue(all(factor[0] > 0 for factor in told.unlike))
            self.assertGreater(len(set(told.unlike)), 1)
            self.assertTrue(all(fits(places, [(ONE, where)], one) for where, one in zip(plan, told.pushes)))
            self.assertEqual(len({plus_rows(one, told.unlike) for one in told.pushes}), 1)
            self.assertIsNone(masked_fault(places, plan, told))
        return told

    def test_samples(self):
        places = corners()
        self.assertIsNone(self.check(places, places))
        self.assertIsNone(self.check(places, places[::-1]))
        self.assertIsNotNone(self.check(places, places[:3] + places[:1]))
        self.assertIsNotNone(self.check(places, (MIDDLE,) * 4))
        self.assertIsNotNone(self.check(places, [place(2, 0), place(4, 1), place(2, 2), place(0, 1)]))
        self.assertIsNone(self.check(places, places[:3] + (place(0, 1),)))
        # With the middle: the three other legs tell the rest unless the diagonal bears it.
        self.assertIsNotNone(self.check(places, places[:3] + (MIDDLE,)))
        self.assertIsNone(self.check(places, places[:3] + (place(1, "3/2"),)))
        two = LAYOUTS["two"]
        self.assertIsNone(self.check(two, [place(1, "1/2"), two[0]]))
        self.assertIsNotNone(self.check(two, [place(1, "1/2")] * 2))

    def test_signs_that_change(self):
        # Two ways to share at the middle of the diagonals, and no choice has the determinant 0.
        found = set()
        lot = random.Random(5)
        for name, places in small_layouts():
            for number in range(20):
                plan = list(spots(places, f"{name} {number}", 4 * len(places)))
                plan = lot.sample(plan, len(places))
                if choices(places, plan) <= 60:
                    kinds = signs(places, plan)
                    found.add(tuple(sorted(kinds)))
                    self.check(places, plan)
        self.assertLessEqual({(-1,), (1,), (0,), (-1, 1), (-1, 0, 1)}, found)

    def test_even_plans_show_evenness_alone(self):
        lot = random.Random(6)
        tried = 0
        for name, places in small_layouts():
            plan = [where for where in places]
            told = even_plan(places, plan) if choices(places, plan) <= 200 else True
            if told is None:
                lean = [lean_by_solving(places, [(ONE, where)]) for where in plan]
                for _ in range(20):
                    factors = [Fraction(lot.randint(1, 3)) for _ in places]
                    showings = {sum(a * b for a, b in zip(lot.choice(rows), factors)) for rows in lean}
                    tried += 1
                    if len(showings) == 1:
                        self.assertEqual(len(set(factors)), 1, name)
        self.assertGreater(tried, 50)

    def test_too_many_choices(self):
        hexagon = LAYOUTS["hexagon"]
        many = len(lean_by_solving(hexagon, [(ONE, place(0, 0))]))
        self.assertGreater(many ** 6, 200)
        self.refuses(TooMany, (200,), even_plan, hexagon, [place(0, 0)] * 6)
        # The counts of lean pushes: at most 200 choices are let.
        seen = set()
        for name, places in small_layouts():
            for number in range(12):
                plan = list(spots(places, f"{name} {number}", len(places)))
                many = choices(places, plan)
                seen.add(many > 200)
                if many > 200:
                    self.refuses(TooMany, (200,), even_plan, places, plan)
        self.assertIn(True, seen)
        self.assertEqual(masked_fault(hexagon, [place(0, 0)] * 6, None), "kind")

    def test_just_200_choices_are_let(self):
        # Counts of lean pushes at some places of the grid: 2, 4, 5 ..
        places = LAYOUTS["grid"]
        counts = {}
        for where in [place(Fraction(x, 4), Fraction(y, 4)) for x in range(9) for y in range(5)]:
            counts.setdefault(len(lean_by_solving(places, [(ONE, where)])), where)
        for rows in product(sorted(counts), repeat=6):
            if list(rows) == sorted(rows) and prod(rows) in range(190, 201) and rows[0] == 1:
                even_plan(places, [counts[many] for many in rows])
            elif list(rows) == sorted(rows) and prod(rows) in range(201, 220):
                self.refuses(TooMany, (200,), even_plan, places, [counts[many] for many in rows])

    def test_lists_and_great_numbers(self):
        self.takes_lists(even_plan, corners(), (MIDDLE,) + corners()[1:])
        self.takes_lists(masked_fault, corners(), (MIDDLE,) * 4, even_plan(corners(), (MIDDLE,) * 4))
        great = LAYOUTS["great"]
        self.check(great, great)
        self.check(great, great[:5] + great[:1])
        self.check(LAYOUTS["far"], LAYOUTS["far"])

    def test_refusals(self):
        for call, rest in ((even_plan, ()), (masked_fault, (None,))):
            self.refuses(BadPlaces, (0, "many"), call, corners()[:1], None, *rest)
            for index, word, plan in NOT_PLANS:
                self.refuses(BadPlan, (index, word), call, corners(), plan, *rest)
            for plan in ((), corners()[:3], corners() + corners()[:1], (MIDDLE,) * 8):
                self.refuses(BadPlan, (0, "length"), call, corners(), plan, *rest)
        # The length is judged before the choices are counted.
        self.refuses(BadPlan, (0, "length"), even_plan, LAYOUTS["hexagon"], [place(0, 0)] * 7)


class Judging(Case):

    PLAN = (place(0, 0), place(4, 0), place(4, 2), MIDDLE)

    def judge(self, **parts):
        row = {"unlike": row_of(1, 1, 1, 2), "pushes": (
            row_of(1, 0, 0, 0), row_of(0, 1, 0, 0), row_of(0, 0, 1, 0), row_of("1/2", 0, "1/2", 0))}
        row.update(parts)
        return masked_fault(corners(), self.PLAN, Masked(**row))

    def test_words(self):
        self.assertIsNone(self.judge())
        self.assertIsNone(self.judge(unlike=row_of(3, 3, 3, "1/9")))
        for thing in (None, True, 0, "masked", (), [], Masked, (ONE,) * 4):
            self.assertEqual(masked_fault(corners(), self.PLAN, thing), "kind")
        for factors in NOT_SEQUENCES + ((), row_of(1, 1, 2), row_of(1, 1, 1, 1, 2), (ONE, ONE, ONE, None)) + tuple(
                (ONE, ONE, size, ONE) for size in NOT_ABOVE_ZERO):
            self.assertEqual(self.judge(unlike=factors), "unlike")
            self.assertEqual(self.judge(unlike=factors, pushes=None), "unlike")
        for size in (1, "2/3", 10 ** 200):
            self.assertEqual(self.judge(unlike=row_of(*[size] * 4)), "equal")
            self.assertEqual(self.judge(unlike=row_of(*[size] * 4), pushes=None), "equal")
        good = even_plan(corners(), self.PLAN).pushes
        for pushes in NOT_SEQUENCES + (
                (), good[:3], good + good[:1], (None,) * 4, good[::-1], good[:3] + (row_of("1/2", "1/2", 0, 0),),
                good[:3] + (row_of(1, 0, 1, 0),), good[:3] + (row_of("3/4", "-1/4", "3/4", "-1/4"),)):
            self.assertEqual(self.judge(pushes=pushes), "pushes")
            self.assertEqual(self.judge(unlike=row_of(1, 2, 3, 4), pushes=pushes), "pushes")
        self.assertEqual(self.judge(unlike=row_of(1, 1, 2, 2)), "showing")
        self.assertEqual(self.judge(unlike=row_of(2, 1, 1, 1)), "showing")
        shared = row_of("1/4", "1/4", "1/4", "1/4")
        self.assertEqual(self.judge(pushes=self.pushes_with(shared)), "showing")

    def pushes_with(self, last):
        return (row_of(1, 0, 0, 0), row_of(0, 1, 0, 0), row_of(0, 0, 1, 0), last)

    def test_equality(self):
        self.told_apart(Masked((ONE,), ((ONE,),)), {"unlike": (), "pushes": ()})


if __name__ == "__main__":
    unittest.main()
