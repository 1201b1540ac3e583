"""Points 1.3, 1.4 and `check_leg` of point 1.6."""

import unittest
from itertools import permutations, product

from tests.helper import (
    Case, NOT_PLACES, NOT_SEQUENCES, NOT_WHOLE, SMALL, deep_list, fraction, place, plain, ratio,
    scale, six_places,
)
from wherelaid.errors import BadPlace, BadPlaces, NoLeg
from wherelaid.places import (
    check_leg, check_place, check_places, cross_of, in_row, is_place, mirror_place, shift_place,
    stretch_place, turn_place,
)
from wherelaid.sequences import is_couple, is_sequence

FAR = place(SMALL, -SMALL)
FINE = place(f"1/{SMALL}", f"-1/{SMALL}")


class Sequences(Case):

    def test_lists_and_tuples_alone(self):
        for thing in NOT_SEQUENCES:
            self.assertIs(is_sequence(thing), False)
            self.assertIs(is_couple(thing), False)
        for many in range(5):
            for thing in ([None] * many, (None,) * many):
                self.assertIs(is_sequence(thing), True)
                self.assertIs(is_sequence(thing, 2), many >= 2)
                self.assertIs(is_sequence(thing, 1, 3), 1 <= many <= 3)
                self.assertIs(is_couple(thing), many == 2)


class Place(Case):

    def test_places(self):
        for one in six_places() + (FAR, FINE):
            for thing in (one, list(one)):
                self.assertIs(is_place(thing), True)
                self.assertEqual(check_place(thing), one)
                self.tuples(check_place(thing))

    def test_no_places(self):
        for thing in NOT_PLACES:
            self.assertIs(is_place(thing), False, thing)
            self.refuses(BadPlace, (thing,), check_place, thing)


class Places(Case):

    def test_two_to_six(self):
        for many in range(2, 7):
            told = six_places()[:many]
            for places in (told, list(told), deep_list(told), tuple(deep_list(told))):
                self.assertEqual(check_places(places), told)
                self.tuples(check_places(places))

    def test_wrong_numbers_of_places(self):
        seven = six_places() + (FAR,)
        for places in NOT_SEQUENCES + ((), [], six_places()[:1], seven, list(seven)):
            self.refuses(BadPlaces, (0, "many"), check_places, places)
        self.refuses(BadPlaces, (0, "many"), check_places, [None] * 7)

    def test_wrong_entries(self):
        for thing in NOT_PLACES:
            for index in range(6):
                places = list(six_places())
                places[index] = thing
                self.refuses(BadPlaces, (index, "place"), check_places, places)

    def test_twice(self):
        for first, second in product(range(6), repeat=2):
            if first < second:
                for places in (list(six_places()), deep_list(six_places())):
                    places[second] = list(places[first])
                    self.refuses(BadPlaces, (second, "twice"), check_places, places)
                    places[second] = tuple(places[first])
                    self.refuses(BadPlaces, (second, "twice"), check_places, places)

    def test_the_first_wrong_entry(self):
        one = place(1, 1)
        self.refuses(BadPlaces, (1, "twice"), check_places, [one, one, None])
        self.refuses(BadPlaces, (1, "place"), check_places, [one, None, one])
        self.refuses(BadPlaces, (2, "twice"), check_places, [FAR, one, one, FAR])

    def test_later_changes(self):
        places = deep_list(six_places())
        made = check_places(places)
        one = places[0]
        alone = check_place(one)
        one[0] = ratio(9)
        places.clear()
        self.assertEqual(made, six_places())
        self.assertEqual(alone, six_places()[0])


class Legs(Case):

    def test_legs(self):
        for legs in (six_places(), list(six_places()), scale(), plain()):
            for leg in range(len(legs)):
                self.assertEqual(check_leg(legs, leg), leg)
            for leg in NOT_WHOLE + (-1, len(legs), len(legs) + 1, 10 ** 30):
                self.refuses(NoLeg, (leg,), check_leg, legs, leg)


class Along(Case):
    """Places led along, beyond the bounds of coordinates too, and told as lists."""

    many = six_places() + (FAR, FINE, place(10 ** 60, f"1/{10 ** 60}"))

    def test_shift(self):
        for one, by in product(self.many, repeat=2):
            told = tuple(ratio(fraction(a) + fraction(b)) for a, b in zip(one, by))
            self.assertEqual(shift_place(one, by), told)
            self.assertEqual(shift_place(list(one), list(by)), told)
            self.tuples(shift_place(list(one), by))

    def test_turn_and_mirror(self):
        self.assertEqual(turn_place(place(3, "1/2")), place("-1/2", 3))
        self.assertEqual(mirror_place(place(3, "1/2")), place(-3, "1/2"))
        self.assertEqual(turn_place(place(0, 0)), place(0, 0))
        for one in self.many:
            around = turn_place(turn_place(turn_place(turn_place(list(one)))))
            self.assertEqual(around, one)
            self.assertEqual(mirror_place(mirror_place(list(one))), one)
            self.tuples((around, mirror_place(list(one))))

    def test_stretch(self):
        for one in self.many:
            for size in ("1", "0", "2", "-1/3", f"{SMALL}"):
                told = tuple(ratio(fraction(part) * fraction(ratio(size))) for part in one)
                self.assertEqual(stretch_place(list(one), ratio(size)), told)
                self.tuples(stretch_place(list(one), ratio(size)))


class Rows(Case):

    def test_cross(self):
        self.assertEqual(cross_of(place(0, 0), place(1, 0), place(0, 1)), (1, 1))
        self.assertEqual(cross_of(place(0, 0), place(0, 1), place(1, 0)), (-1, 1))
        self.assertEqual(cross_of(place(1, 2), place(4, "5/2"), place("1/2", 7)), ratio("61/4"))
        for one, two, three in permutations(Along.many, 3):
            ax, ay, bx, by, cx, cy = [fraction(part) for part in one + two + three]
            told = (bx - ax) * (cy - ay) - (by - ay) * (cx - ax)
            self.assertEqual(cross_of(one, list(two), three), ratio(told))

    def test_row(self):
        slant = [place(0, 0), place(3, 1), place(-6, -2), place("1/2", "1/6"), place(9, 3)]
        upright = [place(2, y) for y in range(6)]
        for row in (slant, upright):
            for many in range(1, len(row) + 1):
                self.assertIs(in_row(row[:many]), True)
                self.assertIs(in_row(tuple(deep_list(row[:many]))), True)
            for at in range(2, len(row) + 1):
                self.assertIs(in_row(row[:at] + [place(5, 7)] + row[at:]), False)
            self.assertIs(in_row([place(5, 7)] + row[:2]), False)
        self.assertIs(in_row([place(5, 7), place(1, 0)]), True)


if __name__ == "__main__":
    unittest.main()
