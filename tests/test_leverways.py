"""Point 1.9."""

import unittest

from tests.helper import (
    Case, NOT_ARM_SIZES, NOT_WHOLE, SMALL, chain, fraction, place, plain, ratio, scale,
)
from wherelaid.arms import arm_size, arms_of, on_lever
from wherelaid.errors import BadScale, BadSize, NoLeg, NoLever
from wherelaid.leverways import cut_lever, lengthened, set_between
from wherelaid.scales import Lever, Scale

TWO = (place(0, 0), place(1, 0))
HALF = SMALL // 2


def on_two(out, inward, seat, *, beam="1"):
    """A beam and a lever on it, with one leg on each."""
    rows = [Lever(ratio(beam)), Lever(ratio(out), 0, ratio(inward))]
    return Scale(rows, [(0, (1, 1)), (1, ratio(seat))], TWO)


class Lengthened(Case):

    def test_all_arms_on_the_lever(self):
        for lever in range(4):
            for size in ("2", "3/7", "1"):
                made = lengthened(scale(), lever, ratio(size))
                self.assertIs(type(made), Scale)
                self.assertEqual(made.factors, scale().factors)
                self.assertEqual(made.places, scale().places)
                self.assertEqual(arms_of(made), arms_of(scale()))
                for arm in arms_of(scale()):
                    old = fraction(arm_size(scale(), arm))
                    told = old * fraction(ratio(size)) if arm in on_lever(scale(), lever) else old
                    self.assertEqual(arm_size(made, arm), ratio(told))

    def test_the_scale_stays(self):
        one = scale()
        lengthened(one, 0, ratio(2))
        self.alike(one, scale())
        self.assertIsNot(lengthened(one, 0, ratio(1)), one)

    def test_errors(self):
        for lever in NOT_WHOLE + (-1, 4):
            self.refuses(NoLever, (lever,), lengthened, scale(), lever, None)
        self.refuses(NoLever, (0,), lengthened, plain(), 0, (1, 1))
        for thing in NOT_ARM_SIZES:
            self.refuses(BadSize, (thing,), lengthened, scale(), 3, thing)

    def test_products_at_the_bounds(self):
        made = lengthened(on_two(HALF, 1, 1), 1, ratio(2))
        self.assertEqual(arm_size(made, ("out", 1)), (SMALL, 1))
        made = lengthened(on_two(1, 1, f"1/{HALF}"), 1, ratio("1/2"))
        self.assertEqual(arm_size(made, ("seat", 1)), (1, SMALL))

    def test_the_first_product_that_is_no_size(self):
        most, two = str(SMALL), ratio(2)
        products = (ratio(2 * (SMALL - 1)), ratio(2 * SMALL))
        self.refuses(BadSize, products[:1], lengthened, on_two(SMALL - 1, 1, most), 1, two)
        self.refuses(BadSize, products[1:], lengthened, on_two(1, 1, most), 1, two)
        rows = [Lever(ratio(1)), Lever(ratio(1), 0, ratio(SMALL - 1)), Lever(ratio(1), 0, (SMALL, 1))]
        made = Scale(rows, [(0, (SMALL, 1)), (1, (1, 1))], TWO)
        self.refuses(BadSize, products[:1], lengthened, made, 0, two)
        made = on_two(most, most, most, beam=f"1/{SMALL}")
        self.refuses(BadSize, ((1, 2 * SMALL),), lengthened, made, 0, ratio("1/2"))

    def test_arms_on_other_levers(self):
        made = lengthened(on_two(1, SMALL, 1), 1, ratio(2))
        self.assertEqual(arm_size(made, ("inward", 1)), (SMALL, 1))


class Cut(Case):

    def test_each_lever(self):
        for lever in (1, 2, 3):
            made = cut_lever(scale(), lever)
            self.assertIs(type(made), Scale)
            self.assertEqual(len(made.levers), 3)
            self.assertEqual(made.factors, scale().factors)
            self.assertEqual(made.places, scale().places)

    def test_what_goes_over(self):
        self.alike(cut_lever(scale(), 1), Scale(
            [Lever(ratio(3)), Lever(ratio("7/2"), 0, ratio(2)), Lever(ratio(11), 0, ratio("1/15"))],
            [(0, ratio("1/4")), (0, ratio("3/10")), (1, ratio("5/2")), (2, ratio(13)),
             (2, ratio(1))],
            scale().places,
        ))
        self.alike(cut_lever(scale(), 3), Scale(
            scale().levers[:3],
            [(0, ratio("1/4")), (1, ratio(3)), (2, ratio("5/2")), (1, ratio("26/33")),
             (1, ratio("2/33"))],
            scale().places,
        ))

    def test_all_levers_but_the_beam(self):
        made = scale()
        for many in (3, 2, 1):
            made = cut_lever(made, 1)
            self.assertEqual(len(made.levers), many)
            self.assertEqual(made.factors, scale().factors)
        self.assertEqual([lever for lever, _ in made.legs], [0] * 5)

    def test_numbers_of_later_levers(self):
        rows = chain(6, 2, 3)
        made = cut_lever(Scale(rows, [(5, (1, 1)), (2, (1, 1))], TWO), 2)
        self.assertEqual([lever.above for lever in made.levers], [None, 0, 1, 2, 3])
        self.assertEqual([lever.inward for lever in made.levers[1:]],
                         [ratio(3), ratio("9/2"), ratio(3), ratio(3)])
        self.assertEqual(made.legs, ((4, ratio(1)), (1, ratio("3/2"))))

    def test_the_scale_stays(self):
        one = scale()
        cut_lever(one, 1)
        self.alike(one, scale())

    def test_no_levers(self):
        for lever in NOT_WHOLE + (-1, 0, 4):
            self.refuses(NoLever, (lever,), cut_lever, scale(), lever)
        for lever in (0, 1, None):
            self.refuses(NoLever, (lever,), cut_lever, plain(), lever)

    def test_products_at_the_bounds(self):
        made = cut_lever(on_two(1, 2, HALF), 1)
        self.assertEqual(made.legs[1], (0, (SMALL, 1)))
        self.refuses(BadSize, (ratio(SMALL + 2),), cut_lever, on_two(1, 2, HALF + 1), 1)
        made = cut_lever(on_two(2, 1, f"1/{HALF}"), 1)
        self.assertEqual(made.legs[1], (0, (1, SMALL)))
        self.refuses(BadSize, ((1, SMALL + 2),), cut_lever, on_two(2, 1, f"1/{HALF + 1}"), 1)

    def test_levers_before_legs(self):
        rows = [Lever(ratio(1)), Lever(ratio(1), 0, ratio(2)), Lever(ratio(1), 1, ratio(1)),
                Lever(ratio(1), 1, ratio(SMALL)), Lever(ratio(1), 1, ratio(SMALL - 1))]
        legs = [(1, ratio(SMALL - 2)), (1, ratio(SMALL - 3))]
        one = Scale(rows, legs, TWO)
        self.refuses(BadSize, (ratio(2 * SMALL),), cut_lever, one, 1)
        one = Scale(rows[:3], legs, TWO)
        self.refuses(BadSize, (ratio(2 * (SMALL - 2)),), cut_lever, one, 1)


class Between(Case):

    def test_a_new_lever(self):
        made = set_between(scale(), 1, ratio(7), ratio("3/2"))
        self.assertEqual(made.levers, scale().levers + (Lever(ratio(7), 1, ratio("3/2")),))
        legs = list(scale().legs)
        legs[1] = (4, ratio(14))
        self.assertEqual(made.legs, tuple(legs))
        self.assertEqual((made.places, made.factors), (scale().places, scale().factors))

    def test_there_and_back(self):
        for leg in range(5):
            for out, inward in (("7", "3/2"), ("1", "1"), ("2/9", "13")):
                made = set_between(scale(), leg, ratio(out), ratio(inward))
                self.assertEqual(made.factors, scale().factors)
                self.alike(cut_lever(made, 4), scale())

    def test_the_scale_stays(self):
        one = scale()
        set_between(one, 0, (1, 1), (2, 1))
        self.alike(one, scale())

    def test_six_levers(self):
        made = scale()
        for many in (5, 6):
            made = set_between(made, 0, ratio(2), ratio(3))
            self.assertEqual(len(made.levers), many)
        self.assertEqual(made.levers[5].above, 4)
        self.refuses(BadScale, (0, "levers"), set_between, made, 0, ratio(2), ratio(3))
        self.refuses(BadScale, (0, "levers"), set_between, made, 0, (SMALL, 1), (1, SMALL))

    def test_errors(self):
        one = (1, 1)
        for leg in NOT_WHOLE + (-1, 5):
            self.refuses(NoLeg, (leg,), set_between, scale(), leg, None, None)
        for thing in NOT_ARM_SIZES:
            self.refuses(BadSize, (thing,), set_between, scale(), 2, thing, ())
            self.refuses(BadSize, (thing,), set_between, scale(), 2, one, thing)
        full = Scale(chain(6), [(0, one), (0, one)], TWO)
        self.refuses(BadSize, ((0, 1),), set_between, full, 0, one, (0, 1))

    def test_new_seats_at_the_bounds(self):
        made = set_between(on_two(1, 1, HALF), 1, ratio(2), ratio(1))
        self.assertEqual(made.legs[1], (2, (SMALL, 1)))
        told = (ratio(SMALL + 2),)
        self.refuses(BadSize, told, set_between, on_two(1, 1, HALF + 1), 1, ratio(2), ratio(1))
        told = ((1, 2 * SMALL),)
        self.refuses(BadSize, told, set_between, on_two(1, 1, f"1/{SMALL}"), 1, (1, 1), (2, 1))


if __name__ == "__main__":
    unittest.main()
