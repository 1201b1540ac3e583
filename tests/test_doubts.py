"""Points 3.9 to 3.11: doubt."""

import unittest
from fractions import Fraction
from itertools import combinations, product

from tests.helper import (
    Case, LAYOUTS, NOT_PLACES, corners, fraction, height, lean_by_solving, place, plain, plains, ratio,
    scale, some_loads,
)
from wherelaid.doubts import Doubt, doubt_at, doubt_fault, greatest_doubt
from wherelaid.errors import BadPlace, BeyondSide
from wherelaid.hulls import side_beyond
from wherelaid.leverways import cut_lever, lengthened, set_between
from wherelaid.loads import total_of
from wherelaid.scales import Plain, plain_of
from wherelaid.settled import is_settled
from wherelaid.skins import Range, range_of
from wherelaid.swaps import least_swaps


def bent():
    return Plain(corners(), [ratio(1), ratio(2), ratio(4), ratio(2)])


def flat():
    return Plain(corners(), [ratio(1), ratio(2), ratio(3), ratio(2)])


def row():
    return Plain(LAYOUTS["three in a row"], [ratio(1), ratio(1), ratio(6)])


def doubt_of(one, swap):
    shows = sum(number * fraction(factor) for number, factor in zip(swap, one.factors))
    return abs(shows) / sum(number for number in swap if number > 0)


class DoubtAt(Case):

    def test_samples(self):
        self.assertEqual(doubt_at(bent(), place(2, 1)), ratio("1/2"))
        self.assertEqual(doubt_at(bent(), place(0, 0)), ratio(0))
        self.assertEqual(doubt_at(bent(), place(1, 0)), ratio(0))
        self.assertEqual(doubt_at(bent(), [ratio(1), ratio("1/2")]), ratio("1/4"))
        self.assertEqual(doubt_at(row(), place(2, 1)), ratio("5/3"))
        self.assertEqual(doubt_at(flat(), place(3, 1)), ratio(0))

    def test_by_solving(self):
        for name, one in plains():
            if name.startswith("great"):
                continue
            points = list(one.places)
            for first, last in combinations(one.places, 2):
                points.append(tuple(ratio((fraction(a) + fraction(b)) / 2) for a, b in zip(first, last)))
            for there in points[::3]:
                shows = [sum(fraction(factor) * part for factor, part in zip(one.factors, pushes))
                         for pushes in lean_by_solving(one.places, ((ratio(1), there),))]
                self.assertEqual(fraction(doubt_at(one, there)), max(shows) - min(shows))

    def test_errors(self):
        for thing in NOT_PLACES:
            self.refuses(BadPlace, (thing,), doubt_at, plain(), thing)
        side = side_beyond(corners(), place(9, 9))
        self.refuses(BeyondSide, (side,), doubt_at, plain(), place(9, 9))


class Greatest(Case):

    def judge(self, one, told):
        """Judge by the words of the document; that no plane comes nearer, a swap shows."""
        self.assertIs(type(told), Doubt)
        self.tuples((told.size, told.place, told.plane))
        size = fraction(told.size)
        swaps = least_swaps(one.places)
        sizes = [doubt_of(one, swap) for swap in swaps]
        self.assertEqual(size, max([Fraction(0), *sizes]))
        if size == 0:
            self.assertIsNone(told.swap)
            self.assertEqual(told.place, one.places[0])
        else:
            swap = swaps[sizes.index(size)]
            self.assertEqual(told.swap, swap)
            taken = [(number, there) for number, there in zip(swap, one.places) if number > 0]
            total = sum(number for number, _ in taken)
            centre = [sum(number * fraction(there[axis]) for number, there in taken) / total
                      for axis in (0, 1)]
            self.assertEqual(told.place, tuple(ratio(part) for part in centre))
        self.assertEqual(len(told.plane), 3)
        for there, factor in zip(one.places, one.factors):
            self.assertLessEqual(abs(fraction(factor) - height(told.plane, there)) * 2, size)

    def test_by_the_document(self):
        for _, one in plains():
            told = greatest_doubt(one)
            self.judge(one, told)
            self.assertIsNone(doubt_fault(one, told))
            self.assertEqual(told.size == ratio(0), is_settled(one))

    def test_turned_planes(self):
        # Three legs in a row and two on either side of it: often the row alone has the greatest
        # doubt, and the plane is turned about it.
        places = (place(0, 0), place(2, 0), place(1, 0), place(1, 3), place(0, -2))
        turned = 0
        for sizes in product((1, 4, 9), repeat=5):
            one = Plain(places, [ratio(size) for size in sizes])
            told = greatest_doubt(one)
            self.judge(one, told)
            self.assertIsNone(doubt_fault(one, told))
            if told.swap is not None and told.swap[3:] == (0, 0) and told.plane[2] != ratio(0):
                turned += 1
        self.assertGreater(turned, 20)

    def test_samples(self):
        told = greatest_doubt(bent())
        self.assertEqual((told.size, told.place, told.swap), (ratio("1/2"), place(2, 1), (1, -1, 1, -1)))
        self.assertEqual(told.plane, (ratio("3/4"), ratio("3/8"), ratio("3/4")))
        told = greatest_doubt(row())
        self.assertEqual((told.size, told.place, told.swap), (ratio("5/3"), place(2, 1), (3, -2, -1)))
        self.assertEqual(greatest_doubt(flat()),
                         Doubt(ratio(0), place(0, 0), None, (ratio(1), ratio("1/4"), ratio("1/2"))))
        three = Plain(LAYOUTS["triangle"], [ratio(1), ratio(7), ratio(1)])
        self.assertEqual(greatest_doubt(three),
                         Doubt(ratio(0), place(0, 0), None, (ratio(1), ratio(1), ratio(0))))

    def test_the_first_of_equal_swaps(self):
        one = Plain(LAYOUTS["crossed"], [ratio(1), ratio(1), ratio(1), ratio(1), ratio(3)])
        told = greatest_doubt(one)
        self.assertEqual(told.size, ratio(2))
        self.assertEqual(told.swap, (0, 0, 1, 1, -2))

    def test_it_is_the_doubt_there_and_nowhere_more(self):
        for name, one in plains():
            told = greatest_doubt(one)
            if max(abs(part) for size in told.place for part in size) <= 10 ** 12:
                self.assertEqual(doubt_at(one, told.place), told.size)
            for there in one.places:
                self.assertLessEqual(fraction(doubt_at(one, there)), fraction(told.size))
            if name.startswith(("six", "crossed", "two inside", "hexagon")):
                for loads in some_loads(one.places):
                    found = range_of(one, loads)
                    if isinstance(found, Range):
                        gap = fraction(found.greatest) - fraction(found.least)
                        self.assertLessEqual(gap, fraction(told.size) * fraction(total_of(loads)))

    def test_the_same_with_other_levers(self):
        one = scale()
        want = greatest_doubt(one)
        for other in (plain_of(one), lengthened(one, 1, ratio("3/7")), cut_lever(one, 1),
                      set_between(one, 4, ratio(2), ratio("3/8"))):
            self.alike(greatest_doubt(other), want)
            self.assertIsNone(doubt_fault(other, want))
            self.assertEqual(doubt_at(other, place(1, 1)), doubt_at(one, place(1, 1)))


class Judging(Case):

    def made(self, one, **parts):
        told = dict(vars(greatest_doubt(one)))
        told.update(parts)
        return Doubt(**told)

    def word(self, one, **parts):
        return doubt_fault(one, self.made(one, **parts))

    def test_kinds(self):
        for thing in (None, True, 0, "doubt", (), [], Doubt, ratio(1)):
            self.assertEqual(doubt_fault(bent(), thing), "kind")
            self.assertEqual(doubt_fault(flat(), thing), "kind")

    def test_sizes(self):
        for one in (bent(), flat(), row()):
            for thing in (None, True, 1, "1", ratio(-1), (1, -2), (2, 4), [1, 2], (True, 2), (0, 2), 0.5):
                self.assertEqual(self.word(one, size=thing), "size")
        self.assertEqual(self.word(bent(), size=ratio(0)), "swap")
        self.assertEqual(self.word(bent(), size=ratio(1)), "swap")
        self.assertEqual(self.word(bent(), size=ratio("1/4")), "swap")
        self.assertEqual(self.word(flat(), size=ratio(1)), "swap")

    def test_swaps(self):
        for swap in ((1, -1, 1, -1), (-1, 1, -1, 1), (7, -7, 7, -7), [2, -2, 2, -2]):
            self.assertIsNone(self.word(bent(), swap=swap))
        for thing in (None, 0, (), (0,) * 4, (1, -1, 1), (1, 1, -1, -1), (True, -1, True, -1),
                      (1.0, -1, 1, -1), "swap"):
            self.assertEqual(self.word(bent(), swap=thing), "swap")
        for thing in ((1, -1, 1, -1), (), 0, False, (0,) * 4):
            self.assertEqual(self.word(flat(), swap=thing), "swap")

    def test_swaps_that_show_less(self):
        one = Plain(LAYOUTS["crossed"], [ratio(1), ratio(2), ratio(1), ratio(1), ratio(3)])
        best = greatest_doubt(one).size
        for swap in least_swaps(one.places):
            right = doubt_of(one, swap) == fraction(best)
            moved = [(number, there) for number, there in zip(swap, one.places) if number > 0]
            centre = tuple(ratio(sum(number * fraction(there[axis]) for number, there in moved)
                                 / Fraction(sum(number for number, _ in moved))) for axis in (0, 1))
            self.assertEqual(self.word(one, swap=swap, place=centre), None if right else "swap")

    def test_places(self):
        for one in (bent(), flat(), row()):
            there = greatest_doubt(one).place
            for thing in (None, 0, (), there[:1], there + (ratio(0),), list(there), place(3, 1),
                          (there[0], (there[1][0], True)), "place"):
                self.assertEqual(self.word(one, place=thing), "place")

    def test_the_place_goes_with_the_swap(self):
        # Two swaps show the same doubt, at unlike places.
        one = Plain((place(0, 0), place(1, 0), place(2, 0), place(0, 5), place(1, 5), place(2, 5)),
                    [ratio(1), ratio(2), ratio(1), ratio(1), ratio(2), ratio(1)])
        first, last = (1, -2, 1, 0, 0, 0), (0, 0, 0, 1, -2, 1)
        for swap, there, word in ((first, place(1, 0), None), (last, place(1, 5), None),
                                  (first, place(1, 5), "place"), (last, place(1, 0), "place")):
            self.assertEqual(self.word(one, swap=swap, place=there), word)

    def test_planes(self):
        for one in (bent(), flat(), row()):
            plane = greatest_doubt(one).plane
            for thing in (None, 0, (), list(plane), plane[:2], plane + (ratio(0),), (1, 2, 3),
                          (ratio(fraction(plane[0]) + 3),) + plane[1:],
                          (ratio(fraction(plane[0]) - 3),) + plane[1:],
                          plane[:2] + (ratio(fraction(plane[2]) + 9),), ([1, 1],) + plane[1:]):
                self.assertEqual(self.word(one, plane=thing), "plane")
        # Just as far as half the size, and a little more.
        self.assertIsNone(self.word(bent(), plane=(ratio("3/4"), ratio("3/8"), ratio("3/4"))))
        tiny = ratio(Fraction(3, 4) + Fraction(1, 10 ** 30))
        self.assertEqual(self.word(bent(), plane=(tiny, ratio("3/8"), ratio("3/4"))), "plane")
        tiny = ratio(Fraction(3, 4) - Fraction(1, 10 ** 30))
        self.assertEqual(self.word(bent(), plane=(tiny, ratio("3/8"), ratio("3/4"))), "plane")

    def test_other_planes_over_a_row(self):
        plane = greatest_doubt(row()).plane
        turned = (plane[0], ratio(fraction(plane[1]) + 1), ratio(fraction(plane[2]) - 2))
        self.assertIsNone(self.word(row(), plane=turned))

    def test_truths_are_no_numbers(self):
        one = Plain(LAYOUTS["triangle"], [ratio(1), ratio(7), ratio(1)])
        for plane in (((True, 1), ratio(1), ratio(0)), (ratio(1), (1, True), ratio(0))):
            self.assertEqual(self.word(one, plane=plane), "plane")
        self.assertEqual(self.word(one, place=((False, 1), ratio(0))), "place")

    def test_first_word(self):
        parts = ("size", "swap", "place", "plane")
        for first, later in combinations(parts, 2):
            self.assertEqual(self.word(bent(), **{first: 0, later: 0}), first)

    def test_equality_and_kept_things(self):
        told = [[1], None, "swap", {}]
        made = Doubt(*told)
        names = ("size", "place", "swap", "plane")
        self.assertEqual(tuple(vars(made)), names)
        self.alike(made, Doubt(*told))
        for index, name in enumerate(names):
            self.assertIs(getattr(made, name), told[index])
            self.unlike(made, Doubt(*told[:index], "other", *told[index + 1:]))
        for other in (None, 0, told, "doubt"):
            self.unlike(made, other)


if __name__ == "__main__":
    unittest.main()
