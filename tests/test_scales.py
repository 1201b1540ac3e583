"""Points 1.5 and 1.6, and 0.7 for the classes in them."""

import unittest
from fractions import Fraction

from tests.helper import (
    Case, LARGE, LEGS, NOT_ARM_SIZES, NOT_PLACES, NOT_RATIOS, NOT_SEQUENCES, NOT_WHOLE, SMALL,
    chain, corners, deep_list, fraction, levers, place, plain, ratio, scale, six_places,
)
from wherelaid.errors import BadLever, BadPlain, BadScale
from wherelaid.scales import Lever, Plain, Scale, placed_at, plain_of

BEAM = Lever(ratio(3))
ON_BEAM = Lever(ratio(5), 0, ratio(2))


class Levers(Case):

    def test_attributes(self):
        lever = Lever((5, 2), 4, (1, SMALL))
        self.assertEqual((lever.out, lever.above, lever.inward), ((5, 2), 4, (1, SMALL)))
        beam = Lever(out=(SMALL, 1))
        self.assertEqual((beam.out, beam.above, beam.inward), ((SMALL, 1), None, None))
        named = Lever(inward=(1, 2), above=0, out=(3, 1))
        self.assertEqual((named.out, named.above, named.inward), ((3, 1), 0, (1, 2)))

    def test_wrong_out_arms(self):
        for thing in NOT_ARM_SIZES:
            self.refuses(BadLever, ("out",), Lever, thing)
            self.refuses(BadLever, ("out",), Lever, thing, 0, (1, 1))

    def test_wrong_levers_above(self):
        for thing in NOT_WHOLE[1:] + (-1, 5, 6):
            self.refuses(BadLever, ("above",), Lever, (1, 1), thing, (1, 1))
            self.refuses(BadLever, ("above",), Lever, (1, 1), thing)

    def test_wrong_inward_arms(self):
        for thing in NOT_ARM_SIZES:
            for above in range(5):
                self.refuses(BadLever, ("inward",), Lever, (1, 1), above, thing)
            if thing is not None:
                self.refuses(BadLever, ("inward",), Lever, (1, 1), None, thing)
        self.refuses(BadLever, ("inward",), Lever, (1, 1), None, (1, 1))
        self.refuses(BadLever, ("inward",), Lever, (1, 1), 3)

    def test_two_wrong_things(self):
        self.refuses(BadLever, ("out",), Lever, (0, 1), 5, (0, 1))
        self.refuses(BadLever, ("above",), Lever, (1, 1), 5, (0, 1))
        self.refuses(BadLever, ("above",), Lever, (1, 1), True, None)

    def test_equality(self):
        self.alike(ON_BEAM, Lever((5, 1), 0, (2, 1)))
        self.alike(BEAM, Lever((3, 1)))
        for other in (Lever((5, 2), 0, (2, 1)), Lever((5, 1), 1, (2, 1)), Lever((5, 1), 0, (2, 3)),
                      Lever((5, 1)), scale(), None, ((5, 1), 0, (2, 1))):
            self.unlike(ON_BEAM, other)


class Scales(Case):

    def test_attributes(self):
        for made in (scale(), Scale(list(levers()), deep_list(LEGS), deep_list(six_places()[:5])),
                     Scale(places=six_places()[:5], legs=LEGS, levers=levers())):
            self.assertIs(type(made.levers), tuple)
            self.assertEqual(made.levers, levers())
            self.assertEqual(made.legs, LEGS)
            self.assertEqual(made.places, six_places()[:5])
            self.tuples((made.legs, made.places, made.factors))
            self.assertEqual(len(made), 5)

    def test_one_to_six_levers(self):
        for many in range(1, 7):
            made = Scale(chain(many), [(many - 1, (1, 1)), (0, (2, 1))], corners()[:2])
            self.assertEqual(len(made.levers), many)
        for wrong in NOT_SEQUENCES + ((), [], tuple(chain(6)) + (ON_BEAM,)):
            self.refuses(BadScale, (0, "levers"), Scale, wrong, LEGS, six_places()[:5])

    def test_no_levers(self):
        for thing in (None, (3, 1), 0, scale()):
            for index in range(4):
                rows = list(levers())
                rows[index] = thing
                self.refuses(BadScale, (0, "levers"), Scale, rows, LEGS, six_places()[:5])

    def test_levers_above(self):
        legs = [(0, (1, 1)), (0, (2, 1))]
        for rows, index in (([ON_BEAM], 0), ([ON_BEAM, ON_BEAM], 0), ([BEAM, BEAM], 1),
                            ([BEAM, ON_BEAM, BEAM], 2), ([BEAM, Lever((1, 1), 1, (1, 1))], 1),
                            ([BEAM, Lever((1, 1), 2, (1, 1)), ON_BEAM], 1),
                            ([BEAM, ON_BEAM, Lever((1, 1), 4, (1, 1))], 2)):
            self.refuses(BadScale, (index, "above"), Scale, rows, legs, corners()[:2])
        rows = [BEAM, Lever((1, 1), 0, (1, 1)), Lever((1, 1), 1, (1, 1)), ON_BEAM]
        self.assertEqual(len(Scale(rows, legs, corners()[:2]).levers), 4)

    def test_two_to_six_legs(self):
        for many in range(2, 7):
            made = Scale([BEAM], [(0, (1, 1))] * many, six_places()[:many])
            self.assertEqual(len(made), many)
        legs = [(0, (1, 1))] * 7
        for wrong in NOT_SEQUENCES + ((), [], tuple(legs[:1]), legs):
            self.refuses(BadScale, (0, "legs"), Scale, [BEAM], wrong, six_places()[:2])

    def test_wrong_legs(self):
        for index in range(5):
            legs = list(LEGS)
            for thing in NOT_SEQUENCES + ((), (0,), [0, (1, 1), (1, 1)]):
                legs[index] = thing
                self.refuses(BadScale, (index, "leg"), Scale, levers(), legs, six_places()[:5])
            for thing in NOT_WHOLE + (-1, 4, 5):
                legs[index] = (thing, (1, 1))
                self.refuses(BadScale, (index, "lever"), Scale, levers(), legs, six_places()[:5])
            for thing in NOT_ARM_SIZES:
                legs[index] = [3, thing]
                self.refuses(BadScale, (index, "seat"), Scale, levers(), legs, six_places()[:5])

    def test_wrong_places(self):
        for thing in NOT_SEQUENCES + ((), [], six_places()[:4], list(six_places())):
            self.refuses(BadScale, (0, "places"), Scale, levers(), LEGS, thing)
        for index in range(5):
            for thing in NOT_PLACES:
                places = list(six_places()[:5])
                places[index] = thing
                self.refuses(BadScale, (index, "place"), Scale, levers(), LEGS, places)
            for earlier in range(index):
                places = list(six_places()[:5])
                places[index] = list(places[earlier])
                self.refuses(BadScale, (index, "twice"), Scale, levers(), LEGS, places)

    def test_two_wrong_things(self):
        good = corners()[:2]
        same = [good[0], good[0]]
        legs = [(0, (1, 1)), (0, (1, 1))]
        self.refuses(BadScale, (0, "levers"), Scale, [ON_BEAM, None], None, None)
        self.refuses(BadScale, (1, "above"), Scale, [BEAM, BEAM], None, None)
        self.refuses(BadScale, (0, "above"), Scale, [ON_BEAM, BEAM], legs, good)
        self.refuses(BadScale, (0, "legs"), Scale, [BEAM], [(5, 5)], None)
        self.refuses(BadScale, (0, "lever"), Scale, [BEAM], [(1, 0), None], None)
        self.refuses(BadScale, (0, "seat"), Scale, [BEAM], [(0, 0), None], None)
        self.refuses(BadScale, (1, "leg"), Scale, [BEAM], [(0, (1, 1)), None], None)
        self.refuses(BadScale, (0, "places"), Scale, [BEAM], legs, same + [None])
        self.refuses(BadScale, (0, "place"), Scale, [BEAM], legs, [None, None])
        three = [(0, (1, 1))] * 3
        self.refuses(BadScale, (1, "twice"), Scale, [BEAM], three, same + [None])
        self.refuses(BadScale, (1, "place"), Scale, [BEAM], three, [good[0], None, good[0]])

    def test_later_changes(self):
        rows, legs, places = list(levers()), deep_list(LEGS), deep_list(six_places()[:5])
        made = Scale(rows, legs, places)
        legs[0][0] = 3
        places[0][0] = ratio(9)
        for changed in (rows, legs, places):
            changed.reverse()
            changed.pop()
        self.alike(made, scale())
        self.assertEqual(made.factors, scale().factors)

    def test_equality(self):
        self.alike(scale(), scale())
        longer = list(levers())
        longer[3] = Lever(ratio(12), 1, ratio("2/3"))
        legs = list(LEGS)
        legs[4] = (3, (2, 1))
        places = list(six_places()[:5])
        places[4] = six_places()[5]
        for other in (Scale(longer, LEGS, scale().places), Scale(levers(), legs, scale().places),
                      Scale(levers(), LEGS, places), plain_of(scale()), None, levers()):
            self.unlike(scale(), other)


class Factors(Case):

    def test_on_the_beam(self):
        made = Scale([BEAM], [(0, (1, 2)), (0, (6, 1))], corners()[:2])
        self.assertEqual(made.factors, (ratio("1/6"), ratio(2)))

    def test_up_the_levers(self):
        third = Fraction(3)
        told = (
            Fraction(1, 4) / third,
            Fraction(3) / 5 * Fraction(1, 2) / third,
            Fraction(5, 2) / Fraction(7, 2) * 2 / third,
            Fraction(13) / 11 * Fraction(2, 3) / 5 * Fraction(1, 2) / third,
            Fraction(1) / 11 * Fraction(2, 3) / 5 * Fraction(1, 2) / third,
        )
        self.assertEqual(scale().factors, tuple(ratio(one) for one in told))

    def test_greatest_and_least(self):
        legs = [(5, (SMALL, 1)), (5, (SMALL, 1))]
        made = Scale(chain(6, f"1/{SMALL}", SMALL), legs, corners()[:2])
        self.assertEqual(made.factors, (ratio(10 ** 144), ratio(10 ** 144)))
        legs = [(5, (1, SMALL)), (5, (1, SMALL))]
        made = Scale(chain(6, SMALL, f"1/{SMALL}"), legs, corners()[:2])
        self.assertEqual(made.factors, ((1, 10 ** 144), (1, 10 ** 144)))
        self.assertEqual(plain_of(made).factors, made.factors)

    def test_told_anew(self):
        made = scale()
        with self.assertRaises(AttributeError):
            made.factors = ()
        self.assertIsInstance(Scale.factors, property)
        self.assertIsInstance(Plain.factors, property)


class Plains(Case):

    def test_attributes(self):
        told = (ratio(1), ratio("1/2"), (LARGE, 1), (1, LARGE), (LARGE, LARGE - 1), ratio(7))
        for many in range(2, 7):
            places = six_places()[:many]
            for made in (Plain(places, told[:many]), Plain(deep_list(places), list(told[:many])),
                         Plain(factors=told[:many], places=places)):
                self.assertEqual(made.places, places)
                self.assertEqual(made.factors, told[:many])
                self.assertEqual(len(made), many)
                self.tuples((made.places, made.factors))

    def test_wrong_places(self):
        factors = (ratio(1),) * 4
        seven = six_places() + (place(9, 9),)
        for thing in NOT_SEQUENCES + ((), [], six_places()[:1], seven, list(seven)):
            self.refuses(BadPlain, (0, "places"), Plain, thing, factors)
        for index in range(4):
            for thing in NOT_PLACES:
                places = list(corners())
                places[index] = thing
                self.refuses(BadPlain, (index, "place"), Plain, places, factors)
            for earlier in range(index):
                places = list(corners())
                places[index] = list(places[earlier])
                self.refuses(BadPlain, (index, "twice"), Plain, places, factors)

    def test_wrong_factors(self):
        good = [ratio(1)] * 5
        for thing in NOT_SEQUENCES + ((), [], tuple(good[:3]), good):
            self.refuses(BadPlain, (0, "factors"), Plain, corners(), thing)
        beyond = ((LARGE + 1, 1), (1, LARGE + 1), (LARGE + 1, LARGE), (LARGE, LARGE + 1))
        for thing in NOT_RATIOS + beyond + ((0, 1), (-1, 1), (-1, 2)):
            for index in range(4):
                factors = good[:4]
                factors[index] = thing
                self.refuses(BadPlain, (index, "factor"), Plain, corners(), factors)

    def test_two_wrong_things(self):
        one = place(1, 1)
        self.refuses(BadPlain, (0, "places"), Plain, [one], None)
        self.refuses(BadPlain, (1, "twice"), Plain, [one, one, None], None)
        self.refuses(BadPlain, (1, "place"), Plain, [one, None, one], None)
        self.refuses(BadPlain, (0, "factors"), Plain, corners(), [None] * 3)
        self.refuses(BadPlain, (1, "factor"), Plain, corners(), [ratio(1), None, 0, 0])

    def test_later_changes(self):
        places, factors = deep_list(corners()), list(plain().factors)
        made = Plain(places, factors)
        places[0][0] = ratio(9)
        places.pop()
        factors.clear()
        self.alike(made, plain())

    def test_equality(self):
        self.alike(plain(), plain())
        factors = plain().factors
        moved = corners()[:3] + (place(1, 1),)
        for other in (Plain(moved, factors), Plain(corners(), factors[:3] + (ratio(5),)),
                      Plain(corners()[:3], factors[:3]), None, (corners(), factors)):
            self.unlike(plain(), other)


class OfEitherClass(Case):

    def test_plain_of(self):
        for one in (scale(), plain()):
            made = plain_of(one)
            self.assertIs(type(made), Plain)
            self.assertEqual((made.places, made.factors), (one.places, one.factors))
            self.assertIsNot(made, one)

    def test_unlike_classes(self):
        self.unlike(scale(), plain_of(scale()))
        self.alike(plain_of(scale()), plain_of(plain_of(scale())))

    def test_placed_at(self):
        for one in (scale(), plain()):
            places = [place(fraction(x) + 7, fraction(y)) for x, y in one.places]
            made = placed_at(one, places)
            self.assertIs(type(made), type(one))
            self.assertEqual((made.places, made.factors), (tuple(places), one.factors))


if __name__ == "__main__":
    unittest.main()
