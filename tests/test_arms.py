"""Points 1.7 and 1.8."""

import unittest
from fractions import Fraction

from tests.helper import (
    Case, LARGE, NOT_ARM_SIZES, NOT_PLACES, NOT_RATIOS, NOT_SEQUENCES, NOT_WHOLE, SMALL, fraction,
    place, plain, ratio, scale,
)
from wherelaid.arms import (
    arm_size, arms_of, check_arm, on_lever, way_of, with_arm, with_factor, with_place,
)
from wherelaid.errors import BadPlace, BadSize, NoArm, NoLeg, NoLever, TwicePlace
from wherelaid.scales import Lever, Plain, Scale

ARMS = (
    ("out", 0), ("out", 1), ("inward", 1), ("out", 2), ("inward", 2), ("out", 3), ("inward", 3),
    ("seat", 0), ("seat", 1), ("seat", 2), ("seat", 3), ("seat", 4),
)
SIZES = ("3", "5", "1/2", "7/2", "2", "11", "2/3", "1/4", "3", "5/2", "13", "1")
NOT_ARMS = NOT_SEQUENCES + (
    (), ("out",), ["out", 0, 0], ("inward", 0), ["inward", 0], ("out", 4), ("inward", 4),
    ("seat", 5), ("out", -1), ("seat", -1), ("out", True), ["seat", False], ("inward", True),
    ("out", 1.0), ("out", None), ("out", "0"), ("Out", 0), ("seats", 0), (0, "out"), (None, 0),
    ([], 0), (b"out", 0), "o0",
)


class Arms(Case):

    def test_all_arms(self):
        self.assertEqual(arms_of(scale()), ARMS)
        self.assertEqual(arms_of(plain()), ())

    def test_order_behind_a_lever_on_another(self):
        rows = [Lever((1, 1)), Lever((1, 1), 0, (1, 1)), Lever((1, 1), 1, (1, 1))]
        made = Scale(rows, [(2, (1, 1)), (0, (1, 1))], scale().places[:2])
        self.assertEqual(arms_of(made), (
            ("out", 0), ("out", 1), ("inward", 1), ("out", 2), ("inward", 2),
            ("seat", 0), ("seat", 1),
        ))

    def test_check_and_size(self):
        for arm, size in zip(ARMS, SIZES):
            for thing in (arm, list(arm)):
                self.assertEqual(check_arm(scale(), thing), arm)
                self.assertIs(type(check_arm(scale(), thing)), tuple)
                self.assertEqual(arm_size(scale(), thing), ratio(size))

    def test_no_arms(self):
        for thing in NOT_ARMS:
            self.refuses(NoArm, (thing,), check_arm, scale(), thing)
            self.refuses(NoArm, (thing,), arm_size, scale(), thing)
        for arm in ARMS:
            self.refuses(NoArm, (arm,), check_arm, plain(), arm)
            self.refuses(NoArm, (arm,), arm_size, plain(), arm)


class Ways(Case):

    def test_ways(self):
        self.assertEqual(way_of(scale(), 0), ((("seat", 0), 1), (("out", 0), -1)))
        self.assertEqual(way_of(scale(), 2), (
            (("seat", 2), 1), (("out", 2), -1), (("inward", 2), 1), (("out", 0), -1),
        ))
        self.assertEqual(way_of(scale(), 4), (
            (("seat", 4), 1), (("out", 3), -1), (("inward", 3), 1), (("out", 1), -1),
            (("inward", 1), 1), (("out", 0), -1),
        ))
        self.assertIs(type(way_of(scale(), 4)), tuple)

    def test_factor_along_the_way(self):
        for leg in range(5):
            product = Fraction(1)
            for arm, power in way_of(scale(), leg):
                product *= fraction(arm_size(scale(), arm)) ** power
            self.assertEqual(scale().factors[leg], ratio(product))

    def test_no_legs(self):
        for one in (scale(), plain()):
            for leg in NOT_WHOLE + (-1, len(one)):
                self.refuses(NoLeg, (leg,), way_of, one, leg)
        self.assertEqual([way_of(plain(), leg) for leg in range(4)], [()] * 4)


class OnLevers(Case):

    def test_what_lies_there(self):
        told = (
            (("out", 0), ("inward", 1), ("inward", 2), ("seat", 0)),
            (("out", 1), ("inward", 3), ("seat", 1)),
            (("out", 2), ("seat", 2)),
            (("out", 3), ("seat", 3), ("seat", 4)),
        )
        self.assertEqual(tuple(on_lever(scale(), lever) for lever in range(4)), told)
        self.assertIs(type(on_lever(scale(), 0)), tuple)

    def test_no_levers(self):
        for lever in NOT_WHOLE + (-1, 4, 5):
            self.refuses(NoLever, (lever,), on_lever, scale(), lever)
        for lever in (0, 1, -1, None):
            self.refuses(NoLever, (lever,), on_lever, plain(), lever)


class WithArm(Case):

    def test_one_arm_changes(self):
        for arm in ARMS:
            for size in ((7, 3), (SMALL, 1), (1, SMALL)):
                made = with_arm(scale(), list(arm), size)
                self.assertIs(type(made), Scale)
                self.assertEqual(made.places, scale().places)
                self.assertEqual(arms_of(made), ARMS)
                for other in ARMS:
                    told = size if other == arm else arm_size(scale(), other)
                    self.assertEqual(arm_size(made, other), told)

    def test_the_same_size(self):
        one = scale()
        made = with_arm(one, ("out", 1), ratio(5))
        self.alike(made, one)
        self.assertIsNot(made, one)

    def test_the_scale_stays(self):
        one = scale()
        with_arm(one, ("seat", 0), ratio(100))
        self.alike(one, scale())

    def test_errors(self):
        for thing in NOT_ARMS:
            self.refuses(NoArm, (thing,), with_arm, scale(), thing, None)
        self.refuses(NoArm, (("out", 0),), with_arm, plain(), ("out", 0), (1, 1))
        for thing in NOT_ARM_SIZES:
            self.refuses(BadSize, (thing,), with_arm, scale(), ("seat", 1), thing)


class WithPlace(Case):

    def test_another_place(self):
        new = place("-7/3", SMALL)
        for one in (scale(), plain()):
            for leg in range(len(one)):
                for thing in (new, list(new)):
                    made = with_place(one, leg, thing)
                    told = one.places[:leg] + (new,) + one.places[leg + 1:]
                    self.assertIs(type(made), type(one))
                    self.assertEqual((made.places, made.factors), (told, one.factors))
        self.assertEqual(with_place(scale(), 3, new).levers, scale().levers)
        self.assertEqual(with_place(scale(), 3, new).legs, scale().legs)

    def test_own_place(self):
        for one in (scale(), plain()):
            for leg in range(len(one)):
                self.alike(with_place(one, leg, list(one.places[leg])), one)

    def test_the_scale_stays(self):
        one, other, new = scale(), plain(), list(place(1, 1))
        made = with_place(one, 0, new)
        with_place(other, 0, new)
        new.clear()
        self.alike(one, scale())
        self.alike(other, plain())
        self.assertEqual(made.places[0], place(1, 1))

    def test_errors(self):
        for one in (scale(), plain()):
            for leg in NOT_WHOLE + (-1, len(one)):
                self.refuses(NoLeg, (leg,), with_place, one, leg, None)
            for thing in NOT_PLACES:
                self.refuses(BadPlace, (thing,), with_place, one, 1, thing)
            for leg in range(len(one)):
                for other in range(len(one)):
                    if other != leg:
                        there = list(one.places[other])
                        self.refuses(TwicePlace, (other,), with_place, one, leg, there)


class WithFactor(Case):

    def test_another_factor(self):
        for size in (ratio("7/9"), (LARGE, 1), (1, LARGE), (LARGE, LARGE - 1)):
            for leg in range(4):
                made = with_factor(plain(), leg, size)
                told = list(plain().factors)
                told[leg] = size
                self.alike(made, Plain(plain().places, told))

    def test_the_plain_stays(self):
        one = plain()
        with_factor(one, 0, ratio(9))
        self.alike(one, plain())
        self.assertIsNot(with_factor(one, 0, one.factors[0]), one)

    def test_errors(self):
        for leg in NOT_WHOLE + (-1, 4):
            self.refuses(NoLeg, (leg,), with_factor, plain(), leg, None)
        beyond = ((LARGE + 1, 1), (1, LARGE + 1), (LARGE + 1, LARGE), (LARGE, LARGE + 1))
        for thing in NOT_RATIOS + beyond + ((0, 1), (-1, 1)):
            self.refuses(BadSize, (thing,), with_factor, plain(), 2, thing)


if __name__ == "__main__":
    unittest.main()
