"""Points 3.5 to 3.8: settled scales."""

import unittest
from fractions import Fraction

from tests.helper import (
    Case, LAYOUTS, corners, fits, fraction, height, levers, place, plain, plains,
    ratio, scale, shown, six_places, some_loads,
)
from wherelaid.arms import with_arm, with_factor
from wherelaid.errors import NoLeg
from wherelaid.leverways import cut_lever, lengthened, set_between
from wherelaid.scales import Plain, Scale, plain_of
from wherelaid.settled import (
    Settled, Unsettled, is_settled, settled_fault, settled_of, settling_factor,
)
from wherelaid.skins import Range, range_of
from wherelaid.swaps import free_legs, plain_swaps


def flat():
    """A settled Plain of four legs, its factors 1 + x / 4 + y / 2."""
    return Plain(corners(), [ratio(1), ratio(2), ratio(3), ratio(2)])


def bent():
    return Plain(corners(), [ratio(1), ratio(2), ratio(4), ratio(2)])


def shows(one, swap):
    return sum(number * fraction(factor) for number, factor in zip(swap, one.factors))


def promised(one):
    """Whether the numbers of the swaps are small enough to be weights."""
    return all(abs(number) <= 10 ** 12 for swap in plain_swaps(one.places) for number in swap)


class Verdicts(Case):

    def test_samples(self):
        self.assertIs(is_settled(flat()), True)
        self.assertIs(is_settled(bent()), False)
        self.assertEqual(settled_of(flat()), Settled((ratio(1), ratio("1/4"), ratio("1/2"))))
        self.assertEqual(settled_of(bent()), Unsettled(
            (1, -1, 1, -1), ((ratio(1), place(0, 0)), (ratio(1), place(4, 2))),
            (ratio(1), ratio(0), ratio(1), ratio(0)), (ratio(0), ratio(1), ratio(0), ratio(1))))

    def test_numbers_of_the_swap_are_weights(self):
        one = Plain(LAYOUTS["three in a row"], [ratio(1), ratio(1), ratio(6)])
        self.assertEqual(settled_of(one), Unsettled(
            (3, -2, -1), ((ratio(3), place(2, 1)),),
            (ratio(3), ratio(0), ratio(0)), (ratio(0), ratio(2), ratio(1))))

    def test_by_the_document(self):
        for _, one in plains():
            swaps = [swap for swap in plain_swaps(one.places) if shows(one, swap)]
            self.assertIs(is_settled(one), not swaps)
            told = settled_of(one)
            if not swaps:
                self.assertIs(type(told), Settled)
                self.tuples(told.plane)
                for there, factor in zip(one.places, one.factors):
                    self.assertEqual(height(told.plane, there), fraction(factor))
            else:
                self.assertEqual(told.swap, swaps[0])
                up = tuple((max(number, 0), 1) for number in swaps[0])
                down = tuple((max(-number, 0), 1) for number in swaps[0])
                loads = tuple((push, there) for push, there in zip(up, one.places) if push[0])
                self.assertEqual((told.loads, told.pushes, told.other_pushes), (loads, up, down))
                self.tuples((told.swap, told.loads, told.pushes, told.other_pushes))
                self.assertTrue(fits(one.places, told.loads, told.pushes))
                self.assertTrue(fits(one.places, told.loads, told.other_pushes))
                self.assertNotEqual(shown(one, told.pushes), shown(one, told.other_pushes))

    def test_one_showing_exactly_if_settled(self):
        for _, one in plains():
            if is_settled(one):
                for loads in some_loads(one.places):
                    told = range_of(one, loads)
                    if isinstance(told, Range):
                        self.assertEqual(told.least, told.greatest)
            elif promised(one):
                told = range_of(one, settled_of(one).loads)
                self.assertNotEqual(told.least, told.greatest)

    def test_two_and_three_legs(self):
        for name in ("two", "triangle", "triangle clockwise"):
            places = LAYOUTS[name]
            one = Plain(places, [ratio(k * k + 1) for k in range(len(places))])
            self.assertIs(is_settled(one), True)

    def test_the_same_with_other_levers(self):
        one = scale()
        even = Scale(levers(), [(0, ratio(3))] * 4, corners())
        for made in (one, even):
            others = [plain_of(made), lengthened(made, 0, ratio("5/9")), lengthened(made, 1, ratio(7)),
                      cut_lever(made, 1), cut_lever(made, 2), set_between(made, 0, ratio(2), ratio("3/8"))]
            for other in others:
                self.assertIs(is_settled(other), is_settled(made))
                self.alike(settled_of(other), settled_of(made))
                self.assertIsNone(settled_fault(other, settled_of(made)))
                for leg in range(len(made)):
                    self.assertEqual(settling_factor(other, leg), settling_factor(made, leg))
        self.assertIs(is_settled(even), True)
        self.assertIs(is_settled(with_arm(even, ("seat", 2), ratio(4))), False)


class Judging(Case):

    def test_kinds(self):
        for one in (flat(), bent(), scale()):
            for thing in (None, True, 0, "settled", (), [], Settled, (ratio(1),) * 3):
                self.assertEqual(settled_fault(one, thing), "kind")

    def test_planes(self):
        plane = settled_of(flat()).plane
        self.assertIsNone(settled_fault(flat(), Settled(plane)))
        for thing in (None, 0, (), list(plane), plane[:2], plane + (ratio(0),), (1, 0, 0),
                      (ratio(2),) + plane[1:], (plane[0], ratio(0), plane[2]), plane[:2] + (ratio(1),),
                      ((True, 1),) + plane[1:], ((1, True),) + plane[1:], ((2, 2),) + plane[1:],
                      ([1, 1],) + plane[1:], plane[::-1]):
            self.assertEqual(settled_fault(flat(), Settled(thing)), "plane")
        for leg in range(4):
            changed = with_factor(flat(), leg, ratio(9))
            self.assertEqual(settled_fault(changed, Settled(plane)), "plane")

    def test_any_plane_over_a_row(self):
        one = Plain(LAYOUTS["three in a row"], [ratio(2)] * 3)
        for plane in ((ratio(2), ratio(0), ratio(0)), (ratio(2), ratio(1), ratio(-2)),
                      (ratio(2), ratio("-7/3"), ratio("14/3"))):
            self.assertIsNone(settled_fault(one, Settled(plane)))
        self.assertEqual(settled_fault(one, Settled((ratio(2), ratio(1), ratio(-1)))), "plane")

    def made(self, **parts):
        row = dict(vars(settled_of(bent())))
        row.update(parts)
        return Unsettled(**row)

    def test_right_ones(self):
        # Not plain, other loads, other pushes, lists: all are right.
        loads = ((ratio(4), place(2, 1)),)
        row, other = (ratio(2), ratio(0), ratio(2), ratio(0)), (ratio(1),) * 4
        for told in (
                self.made(), self.made(swap=(-1, 1, -1, 1)), self.made(swap=(5, -5, 5, -5)),
                self.made(loads=loads, pushes=row, other_pushes=other),
                self.made(loads=loads, pushes=other, other_pushes=row), self.made(swap=[2, -2, 2, -2])):
            self.assertIsNone(settled_fault(bent(), told))

    def test_swaps(self):
        for thing in (None, 0, (), (1, -1, 1), (0,) * 4, (1, 1, -1, -1), (True, -1, True, -1),
                      (1.0, -1, 1, -1), "1111", (ratio(1), ratio(-1), ratio(1), ratio(-1))):
            self.assertEqual(settled_fault(bent(), self.made(swap=thing)), "swap")
        # The sum of number * factor is 0.
        self.assertEqual(settled_fault(flat(), self.made()), "swap")
        six = Plain(six_places(), [ratio(k) for k in (1, 2, 4, 2, 3, 1)])
        told = settled_of(six)
        self.assertIsNone(settled_fault(six, told))

    def test_loads(self):
        for thing in (None, 0, "loads", [()], ((ratio(-1), place(0, 0)),), ((ratio(1), None),),
                      ((ratio(1), place(0, 0)),) * 9):
            self.assertEqual(settled_fault(bent(), self.made(loads=thing)), "loads")

    def test_pushes(self):
        right = settled_of(bent())
        for thing in (None, (), right.pushes[:3], (ratio(2), ratio(0), ratio(0), ratio(0)), (None,) * 4,
                      (ratio(0),) * 4, (ratio(2), ratio(-1), ratio(2), ratio(-1)), (1, 0, 1, 0),
                      ((True, 1), ratio(0), ratio(1), ratio(0))):
            self.assertEqual(settled_fault(bent(), self.made(pushes=thing)), "pushes")
            self.assertEqual(settled_fault(bent(), self.made(other_pushes=thing)), "other pushes")
        self.assertEqual(settled_fault(bent(), self.made(loads=())), "pushes")

    def test_showings(self):
        right = settled_of(bent())
        self.assertEqual(settled_fault(bent(), self.made(pushes=right.other_pushes)), "showings")
        self.assertEqual(settled_fault(bent(), self.made(other_pushes=right.pushes)), "showings")
        nothing = (ratio(0),) * 4
        told = self.made(loads=(), pushes=nothing, other_pushes=nothing)
        self.assertEqual(settled_fault(bent(), told), "showings")

    def test_first_word(self):
        for parts, word in (
                ({"swap": None, "loads": None}, "swap"), ({"loads": None, "pushes": None}, "loads"),
                ({"pushes": None, "other_pushes": None}, "pushes"), ({"swap": None, "pushes": None}, "swap"),
                ({"loads": None, "other_pushes": None}, "loads")):
            self.assertEqual(settled_fault(bent(), self.made(**parts)), word)

    def test_all_samples(self):
        for _, one in plains():
            if promised(one):
                self.assertIsNone(settled_fault(one, settled_of(one)))

    def test_equality_and_kept_things(self):
        row = [[1, -1], None, "pushes", {}]
        made = Unsettled(*row)
        names = ("swap", "loads", "pushes", "other_pushes")
        self.assertEqual(tuple(vars(made)), names)
        self.alike(made, Unsettled(*row))
        for index, name in enumerate(names):
            self.assertIs(getattr(made, name), row[index])
            self.unlike(made, Unsettled(*row[:index], "other", *row[index + 1:]))
        plane = [None]
        self.assertIs(Settled(plane).plane, plane)
        self.alike(Settled((1,)), Settled((1,)))
        self.unlike(Settled((1,)), Settled((2,)))
        for other in (None, 0, made, (1,), "settled"):
            self.unlike(Settled((1,)), other)
        self.unlike(made, Settled(row[0]))
        self.unlike(made, None)


class Settling(Case):

    def test_samples(self):
        for leg, size in enumerate((ratio(1), ratio(2), ratio(3), ratio(2))):
            self.assertEqual(settling_factor(flat(), leg), size)
        self.assertIsNone(settling_factor(bent(), 0))
        for leg, size in ((1, ratio(3)), (2, ratio(3)), (3, ratio(3))):
            self.assertEqual(settling_factor(bent(), leg), size)
        # It would have to be below 0.
        low = Plain(corners(), [ratio(5), ratio(1), ratio(1), ratio(1)])
        self.assertIsNone(settling_factor(low, 2))
        self.assertEqual(settling_factor(low, 0), ratio(1))
        self.assertEqual(settling_factor(low, 3), ratio(5))

    def test_free_legs(self):
        for name in ("one on a side", "row and one"):
            places = LAYOUTS[name]
            one = Plain(places, [ratio(k * k + 1) for k in range(len(places))])
            self.assertIs(is_settled(one), False)
            for leg in free_legs(places):
                self.assertIsNone(settling_factor(one, leg))
        three = Plain(LAYOUTS["triangle"], [ratio(7), ratio(1), ratio(2)])
        self.assertEqual([settling_factor(three, leg) for leg in range(3)], list(three.factors))

    def test_by_the_document(self):
        for _, one in plains():
            for leg in range(len(one)):
                found = settling_factor(one, leg)
                if is_settled(one):
                    self.assertEqual(found, one.factors[leg])
                    continue
                # What each swap asks for: one ratio, any, or none.
                asked = set()
                for swap in plain_swaps(one.places):
                    rest = shows(one, swap) - swap[leg] * fraction(one.factors[leg])
                    if swap[leg]:
                        asked.add(Fraction(-rest, swap[leg]))
                    elif rest:
                        asked.add(None)
                if len(asked) == 1 and None not in asked and max(asked) > 0:
                    self.assertEqual(found, ratio(max(asked)))
                else:
                    self.assertIsNone(found)

    def test_it_settles(self):
        seen = 0
        for name, one in plains():
            if name.endswith((" 1", " 0")):
                for leg in range(len(one)):
                    changed = with_factor(one, leg, ratio(fraction(one.factors[leg]) + 2))
                    self.assertEqual(is_settled(changed), leg in free_legs(one.places))
                    if not is_settled(changed):
                        self.assertEqual(settling_factor(changed, leg), one.factors[leg])
                        seen += 1
        self.assertGreater(seen, 50)

    def test_errors(self):
        for one in (flat(), bent(), scale(), plain()):
            for leg in (-1, len(one), None, True, False, "0", (0,), 0.0):
                self.refuses(NoLeg, (leg,), settling_factor, one, leg)


if __name__ == "__main__":
    unittest.main()
