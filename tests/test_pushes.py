"""Points 2.4 to 2.7: pushes, how they fit loads, and how legs share a weight."""

import unittest
from fractions import Fraction

from tests.helper import (
    Case, LAYOUTS, NOT_PLACES, NOT_RATIOS, NOT_SEQUENCES, corners, deep_list, fits, fraction,
    lean_by_solving, place, plain, ratio, scale, shown, some_loads,
)
from wherelaid.errors import BadLoads, BadPlace, BadPlaces, BadPushes, BeyondSide, NoLeg
from wherelaid.hulls import side_beyond
from wherelaid.pushes import (
    check_pushes, lean_pushes, mix_of, pushes_fault, share_range, showing_of,
)

ONES = (ratio(1),) * 4
MIDDLE = ((ratio(4), place(2, 1)),)
NOT_PUSHES = NOT_RATIOS + ((-1, 1), (-1, 7))
NOT_LOADS = (
    (None, 0, "many"), ([MIDDLE[0]] * 9, 0, "many"), ([MIDDLE[0], ()], 1, "load"),
    ([(ratio(-1), None)], 0, "weight"), ([MIDDLE[0], (ratio(1), None)], 1, "place"),
)


def cases():
    """Couples of all layouts and some loads."""
    for places in LAYOUTS.values():
        for loads in some_loads(places):
            yield places, loads


def means(rows):
    """Some means of rows of pushes, of two and of all."""
    many = len(rows)
    yield [sum(parts) / many for parts in zip(*rows)]
    for one, other in zip(rows, rows[1:]):
        yield [(one_part * 2 + other_part) / 3 for one_part, other_part in zip(one, other)]
    total = Fraction(many * (many + 1), 2)
    yield [sum((k + 1) * part for k, part in enumerate(parts)) / total for parts in zip(*rows)]


class Checks(Case):

    def test_pushes(self):
        row = (ratio(0), ratio(1), (10 ** 200, 3), (1, 10 ** 200))
        for legs in (corners(), list(corners()), plain()):
            self.assertEqual(check_pushes(legs, row), row)
            self.assertEqual(check_pushes(legs, list(row)), row)
            self.tuples(check_pushes(legs, list(row)))

    def test_wrong_numbers(self):
        for call in (check_pushes, showing_of):
            for one in (plain(), scale()):
                many = len(one)
                for thing in NOT_SEQUENCES + ((), (ratio(1),) * (many - 1), [ratio(1)] * (many + 1)):
                    self.refuses(BadPushes, (0, "many"), call, one, thing)

    def test_wrong_pushes(self):
        for index in range(4):
            row = list(ONES)
            for thing in NOT_PUSHES:
                row[index] = thing
                self.refuses(BadPushes, (index, "push"), check_pushes, corners(), row)
                self.refuses(BadPushes, (index, "push"), showing_of, plain(), row)
                self.assertEqual(pushes_fault(corners(), MIDDLE, row), "push")
        self.refuses(BadPushes, (1, "push"), check_pushes, corners(), [ratio(0), None, ratio(-1), 1])

    def test_showing(self):
        row = (ratio(2), ratio("1/3"), ratio(0), ratio("5/4"))
        self.assertEqual(showing_of(plain(), row), ratio(Fraction(2) + Fraction(1, 6) + 5))
        self.assertEqual(showing_of(plain(), list(row)), ratio("43/6"))
        self.assertEqual(showing_of(plain(), [ratio(0)] * 4), ratio(0))
        five = (ratio(10 ** 20), ratio(0), ratio(1), ratio("1/7"), ratio(3))
        self.assertEqual(fraction(showing_of(scale(), five)), shown(scale(), five))

    def test_later_changes(self):
        row = list(ONES)
        made = check_pushes(corners(), row)
        row[0] = ratio(9)
        self.assertEqual(made, ONES)


class Fault(Case):

    def test_right(self):
        for row in (ONES, list(ONES), (ratio(2), ratio(0), ratio(2), ratio(0)),
                    (ratio("1/3"), ratio("5/3"), ratio("1/3"), ratio("5/3"))):
            for places in (corners(), deep_list(corners())):
                for loads in (MIDDLE, deep_list(MIDDLE), (MIDDLE[0], (ratio(0), place(90, 9)))):
                    self.assertIsNone(pushes_fault(places, loads, row))

    def test_words(self):
        for thing in NOT_SEQUENCES + ((), ONES[:3], ONES + ONES[:1]):
            self.assertEqual(pushes_fault(corners(), MIDDLE, thing), "many")
        for row, word in (
                ((ratio(1), ratio(1), ratio(1), ratio(2)), "sum"),
                ((ratio(0),) * 4, "sum"),
                ((ratio(4), ratio(0), ratio(0), ratio(0)), "balance"),
                # One of the two sums alone is wrong.
                ((ratio(1), ratio(0), ratio(1), ratio(2)), "balance"),
                ((ratio(0), ratio(1), ratio(1), ratio(2)), "balance"),
                ((ratio(0), ratio(2), ratio(2), ratio(0)), "balance"),
                ((ratio(2), ratio(2), ratio(0), ratio(0)), "balance")):
            self.assertEqual(pushes_fault(corners(), MIDDLE, row), word)

    def test_first_word(self):
        self.assertEqual(pushes_fault(corners(), MIDDLE, (None,) * 3), "many")
        self.assertEqual(pushes_fault(corners(), MIDDLE, (ratio(8), ratio(-1), ratio(0), ratio(0))), "push")
        # With sum and sums of the loads, but a push below 0.
        self.assertEqual(pushes_fault(corners(), MIDDLE, (ratio(3), ratio(-1), ratio(3), ratio(-1))), "push")
        self.assertEqual(pushes_fault(corners(), MIDDLE, (ratio(4), ratio(1), ratio(0), ratio(0))), "sum")

    def test_by_the_document(self):
        for places, loads in cases():
            rows = [tuple(ratio(part) for part in row) for row in lean_by_solving(places, loads)]
            for row in rows:
                self.assertIsNone(pushes_fault(places, loads, row))
                moved = row[1:] + row[:1]
                self.assertEqual(pushes_fault(places, loads, moved) is None, fits(places, loads, moved))
                more = (ratio(fraction(row[0]) + 1),) + row[1:]
                self.assertEqual(pushes_fault(places, loads, more), "sum")

    def test_errors(self):
        for places, index, what in ((None, 0, "many"), ([place(0, 0), None], 1, "place"),
                                    ([place(0, 0)] * 2, 1, "twice")):
            for call in (pushes_fault, mix_of):
                self.refuses(BadPlaces, (index, what), call, places, None, None)
            self.refuses(BadPlaces, (index, what), lean_pushes, places, None)
            self.refuses(BadPlaces, (index, what), share_range, places, None, None)
        for loads, index, what in NOT_LOADS:
            for call in (pushes_fault, mix_of):
                self.refuses(BadLoads, (index, what), call, corners(), loads, None)
            self.refuses(BadLoads, (index, what), lean_pushes, corners(), loads)


class Lean(Case):

    def test_samples(self):
        self.assertEqual(lean_pushes(corners(), MIDDLE), (
            (ratio(0), ratio(2), ratio(0), ratio(2)), (ratio(2), ratio(0), ratio(2), ratio(0))))
        self.assertEqual(lean_pushes(corners(), ((ratio(3), place(4, 1)),)),
                         ((ratio(0), ratio("3/2"), ratio("3/2"), ratio(0)),))
        self.assertEqual(lean_pushes(corners(), ((ratio(3), place(5, 1)),)), ())
        self.assertEqual(lean_pushes(corners(), ()), ((ratio(0),) * 4,))
        self.assertEqual(lean_pushes(corners(), [(ratio(0), place(9, 9))]), ((ratio(0),) * 4,))
        row = LAYOUTS["three in a row"]
        self.assertEqual(lean_pushes(row, [(ratio(2), place(2, 1))]), (
            (ratio(0), ratio("4/3"), ratio("2/3")), (ratio(2), ratio(0), ratio(0))))

    def test_ascending_by_value(self):
        # 2/3 and 1/2 and 3/4: not by tops or bottoms.
        for places, loads in cases():
            rows = [[fraction(part) for part in row] for row in lean_pushes(places, loads)]
            self.assertEqual(rows, sorted(rows))

    def test_by_solving(self):
        for places, loads in cases():
            want = lean_by_solving(places, loads)
            for one, other in ((places, loads), (deep_list(places), deep_list(loads))):
                found = lean_pushes(one, other)
                self.tuples(found)
                self.assertEqual(found, tuple(tuple(ratio(part) for part in row) for row in want))

    def test_none_exactly_if_the_loads_tip(self):
        for places, loads in cases():
            total = sum(fraction(weight) for weight, _ in loads)
            if total > 0:
                centre = tuple(ratio(sum(fraction(weight) * fraction(there[axis])
                                         for weight, there in loads) / total) for axis in (0, 1))
                if max(abs(part) for one in centre for part in one) <= 10 ** 12:
                    tips = side_beyond(places, centre) is not None
                    self.assertEqual(lean_pushes(places, loads) == (), tips)

    def test_a_centre_that_is_no_small_place(self):
        tiny = (1, 10 ** 12)
        loads = ((tiny, place(1, 1)), (ratio(10 ** 12), place(2, 1)), (ratio("1/7"), place(3, 1)))
        for row in lean_pushes(corners(), loads):
            self.assertIsNone(pushes_fault(corners(), loads, row))
        self.assertEqual(len(lean_pushes(corners(), loads)), 2)


class Mix(Case):

    def judge(self, places, loads, pushes, mix):
        self.assertIs(type(mix), tuple)
        self.tuples(mix)
        self.assertLessEqual(len(mix), len(places))
        self.assertEqual(sum(fraction(share) for share, _ in mix), 1)
        self.assertTrue(all(fraction(share) > 0 for share, _ in mix))
        lean = [row for _, row in mix]
        self.assertEqual(len(lean), len(set(lean)))
        known = lean_by_solving(places, loads)
        for row in lean:
            self.assertIn(tuple(fraction(part) for part in row), known)
        for leg, push in enumerate(pushes):
            mean = sum(fraction(share) * fraction(row[leg]) for share, row in mix)
            self.assertEqual(mean, fraction(push))

    def test_means(self):
        for places, loads in cases():
            rows = lean_by_solving(places, loads)
            for mean in means(rows) if rows else ():
                pushes = [ratio(part) for part in mean]
                self.judge(places, loads, pushes, mix_of(places, loads, pushes))
                self.judge(places, loads, pushes,
                           mix_of(deep_list(places), deep_list(loads), tuple(pushes)))

    def test_lean_pushes_alone(self):
        for places, loads in cases():
            for row in lean_pushes(places, loads):
                self.assertEqual(mix_of(places, loads, row), ((ratio(1), row),))

    def test_total_0(self):
        nothing = [ratio(0)] * 4
        for loads in ((), [(ratio(0), place(99, 0))] * 8):
            self.assertEqual(mix_of(corners(), loads, nothing), ((ratio(1), tuple(nothing)),))
            self.refuses(BadPushes, (0, "sum"), mix_of, corners(), loads, ONES)

    def test_errors(self):
        for thing in NOT_SEQUENCES + ((), ONES[:3]):
            self.refuses(BadPushes, (0, "many"), mix_of, corners(), MIDDLE, thing)
        for thing in NOT_PUSHES:
            self.refuses(BadPushes, (2, "push"), mix_of, corners(), MIDDLE, ONES[:2] + (thing, None))
        self.refuses(BadPushes, (0, "sum"), mix_of, corners(), MIDDLE, (ratio(2),) * 4)
        self.refuses(BadPushes, (0, "balance"), mix_of, corners(), MIDDLE,
                     (ratio(0), ratio(0), ratio(2), ratio(2)))
        tips = ((ratio(4), place(5, 1)),)
        self.refuses(BadPushes, (0, "balance"), mix_of, corners(), tips, ONES)

    def test_nothing_is_changed(self):
        places, loads, pushes = deep_list(corners()), deep_list(MIDDLE), list(ONES)
        made = mix_of(places, loads, pushes)
        again = mix_of(corners(), MIDDLE, ONES)
        self.assertEqual((places, loads, pushes), (deep_list(corners()), deep_list(MIDDLE), list(ONES)))
        pushes[0] = None
        self.assertEqual(made, again)


class Shares(Case):

    def test_samples(self):
        self.assertEqual(share_range(corners(), place(2, 1), 0), (ratio(0), ratio("1/2")))
        self.assertEqual(share_range(corners(), place(0, 0), 0), (ratio(1), ratio(1)))
        self.assertEqual(share_range(corners(), place(0, 0), 1), (ratio(0), ratio(0)))
        self.assertEqual(share_range(corners(), place(1, "1/2"), 0), (ratio("1/2"), ratio("3/4")))
        self.assertEqual(share_range(LAYOUTS["two"], place(1, "1/2"), 1), (ratio("1/4"),) * 2)

    def test_by_lean_pushes(self):
        for places, loads in cases():
            if len(loads) == 1 and lean_by_solving(places, loads):
                there = loads[0][1]
                rows = lean_by_solving(places, ((ratio(1), there),))
                for leg in range(len(places)):
                    shares = [row[leg] for row in rows]
                    for one, other in ((places, there), (deep_list(places), list(there))):
                        found = share_range(one, other, leg)
                        self.tuples(found)
                        self.assertEqual(found, (ratio(min(shares)), ratio(max(shares))))

    def test_errors_in_order(self):
        for thing in NOT_PLACES:
            self.refuses(BadPlace, (thing,), share_range, corners(), thing, None)
        for leg in (-1, 4, None, True, False, "0", (0, 1), 0.0):
            self.refuses(NoLeg, (leg,), share_range, corners(), place(1, 1), leg)
            self.refuses(NoLeg, (leg,), share_range, corners(), place(9, 9), leg)
        side = side_beyond(corners(), place(9, 9))
        self.refuses(BeyondSide, (side,), share_range, corners(), place(9, 9), 0)


if __name__ == "__main__":
    unittest.main()
