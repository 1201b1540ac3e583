"""Points 6.11 and 6.12: legs that show, cores, and scales with the same ranges."""

import random
import unittest
from fractions import Fraction
from itertools import combinations

from tests.helper import (
    Case, LAYOUTS, corners, fraction, place, plain, plains, ratio, scale, some_loads, spots,
)
from tests.test_fits import ONE, ends_at
from tests.test_hidden import NOT_LEGS, is_corner, with_size, without
from wherelaid.along import turned
from wherelaid.cores import Shows, core_of, showing_legs, shows_at, unlike_at
from wherelaid.doubts import greatest_doubt
from wherelaid.errors import NoLeg
from wherelaid.even import error_range, is_even
from wherelaid.leverways import cut_lever, lengthened
from wherelaid.scales import Plain, plain_of
from wherelaid.settled import is_settled
from wherelaid.skins import Range, Tips, range_of

CROSSED = Plain(LAYOUTS["crossed"], [ratio(1), ratio(1), ratio(3), ratio(3), ratio(2)])


def all_places(one, other):
    """Places where ranges of the two are compared: all legs and some between them."""
    return [*one.places, *other.places, *spots(one.places, 1, 6), *spots(other.places, 2, 6)]


def span(one, where):
    """What a weight 1 there can show, None if it tips."""
    told = range_of(one, [(ONE, where)])
    return None if isinstance(told, Tips) else (told.least, told.greatest)


def samples():
    return [(name, one) for name, one in plains()
            if not name.startswith(("great", "far")) and not name.endswith("4")]


class Showing(Case):

    def test_samples(self):
        self.assertIsNone(shows_at(CROSSED, 4))
        self.assertIsNone(shows_at(with_size(CROSSED, 4, 1), 4))
        self.assertIsNone(shows_at(with_size(CROSSED, 4, 3), 4))
        for size in ("99/100", "301/100"):
            self.assertEqual(shows_at(with_size(CROSSED, 4, size), 4), Shows(place(2, 2), ratio(1), ratio(3)))
        self.assertEqual(shows_at(CROSSED, 0), Shows(place(0, 0), None, None))
        self.assertEqual(showing_legs(CROSSED), (0, 1, 2, 3))
        self.assertEqual(core_of(CROSSED), Plain(CROSSED.places[:4], CROSSED.factors[:4]))
        row = Plain(LAYOUTS["three in a row"], [ratio(2), ratio(1), ratio(4)])
        self.assertIsNone(shows_at(row, 0))
        self.assertEqual(core_of(row), Plain(row.places[1:], row.factors[1:]))
        self.assertEqual(shows_at(with_size(row, 0, 3), 0), Shows(place(2, 1), ratio(2), ratio(2)))
        self.assertEqual(core_of(scale()).places, tuple(scale().places[leg] for leg in showing_legs(scale())))

    def test_by_the_skins_of_the_others(self):
        seen = set()
        for name, one in plains():
            for leg in range(len(one)):
                told = shows_at(one, leg)
                if is_corner(one.places, leg):
                    self.assertEqual(told, Shows(one.places[leg], None, None), name)
                    seen.add("corner")
                    continue
                least, greatest = ends_at(without(one, leg), one.places[leg])
                inside = least <= fraction(one.factors[leg]) <= greatest
                self.assertEqual(told, None if inside else Shows(one.places[leg], ratio(least), ratio(greatest)))
                seen.add(inside)
            self.assertEqual(showing_legs(one), tuple(leg for leg in range(len(one)) if shows_at(one, leg)))
        self.assertEqual(seen, {"corner", True, False})

    def test_cores_have_the_same_ranges(self):
        smaller = 0
        for name, one in samples():
            core = core_of(one)
            self.assertIs(type(core), Plain)
            self.tuples((core.places, core.factors))
            smaller += len(core) < len(one)
            for loads in some_loads(one.places):
                told, other = range_of(one, loads), range_of(core, loads)
                self.assertEqual(type(told), type(other), name)
                if isinstance(told, Range):
                    self.assertEqual((told.least, told.greatest), (other.least, other.greatest))
            self.assertEqual(core_of(core), core)
            self.assertIsNone(unlike_at(one, core))
        self.assertGreater(smaller, 10)

    def test_what_else_stays(self):
        for _, one in samples():
            core = core_of(one)
            self.assertEqual(is_settled(core), is_settled(one))
            self.assertEqual(is_even(core), is_even(one))
            self.assertEqual(greatest_doubt(core).size, greatest_doubt(one).size)
            self.assertEqual(error_range(core, ratio(2)), error_range(one, ratio(2)))

    def test_every_such_lot_holds_the_showing_legs(self):
        for name, one in samples()[::3]:
            showing = showing_legs(one)
            for size in range(2, len(one)):
                for lot in combinations(range(len(one)), size):
                    part = Plain([one.places[leg] for leg in lot], [one.factors[leg] for leg in lot])
                    same = all(span(one, where) == span(part, where) for where in one.places)
                    self.assertEqual(same, set(showing) <= set(lot), name)

    def test_where_it_shows(self):
        for _, one in samples():
            for leg in range(len(one)):
                told = shows_at(one, leg)
                if told is not None and len(one) > 2:
                    self.assertNotEqual(span(without(one, leg), told.place), span(one, told.place))

    def test_led_along_and_other_levers(self):
        for _, one in samples()[::4]:
            self.assertEqual(showing_legs(turned(one)), showing_legs(one))
            self.assertEqual(core_of(turned(one)), turned(core_of(one)))
        made = scale()
        for other in (plain_of(made), cut_lever(made, 1), lengthened(made, 0, ratio("3/7"))):
            self.assertEqual(showing_legs(other), showing_legs(made))
            self.assertEqual(core_of(other), core_of(made))
            self.assertIsNone(unlike_at(other, made))

    def test_refusals(self):
        for leg in NOT_LEGS:
            self.refuses(NoLeg, (leg,), shows_at, plain(), leg)

    def test_equality(self):
        self.told_apart(Shows(place(0, 0), ONE, None), {"place": place(1, 0), "low": None, "high": ONE})


class Unlike(Case):

    def by_words(self, one, other):
        for first, second in ((one, other), (other, one)):
            for where, size in zip(first.places, first.factors):
                told = span(second, where)
                if told is None or not fraction(told[0]) <= fraction(size) <= fraction(told[1]):
                    return where
        return None

    def test_samples(self):
        square = Plain(corners(), (ONE,) * 4)
        self.assertIsNone(unlike_at(square, square))
        self.assertEqual(unlike_at(square, with_size(square, 2, 2)), place(4, 2))
        self.assertEqual(unlike_at(square, Plain(corners()[:3], (ONE,) * 3)), place(0, 2))
        self.assertEqual(unlike_at(Plain(corners()[:3], (ONE,) * 3), square), place(0, 2))
        wide = Plain((place(-1, 0),) + corners()[1:], (ONE,) * 4)
        self.assertEqual(unlike_at(square, wide), place(-1, 0))
        self.assertEqual(unlike_at(wide, square), place(-1, 0))
        order = Plain(corners()[::-1], (ONE,) * 4)
        self.assertIsNone(unlike_at(square, order))
        row = Plain(LAYOUTS["three in a row"], [ratio(2), ratio(1), ratio(4)])
        self.assertIsNone(unlike_at(row, Plain(row.places[1:], row.factors[1:])))
        self.assertEqual(unlike_at(row, Plain(row.places[1:], [ratio(1), ratio(5)])), place(2, 1))

    def test_pairs(self):
        lot = random.Random(7)
        rows = samples()
        kinds = {}
        for name, one in rows:
            others = [lot.choice(rows)[1], core_of(one), turned(one),
                      with_size(one, lot.randrange(len(one)), Fraction(lot.randint(1, 6), 2))]
            leg = lot.randrange(len(one))
            if len(one) > 2:
                others.append(without(one, leg))
            order = lot.sample(range(len(one)), len(one))
            others.append(Plain([one.places[k] for k in order], [one.factors[k] for k in order]))
            for other in others:
                told = unlike_at(one, other)
                self.assertEqual(told, self.by_words(one, other), name)
                same = sorted(zip(core_of(one).places, core_of(one).factors)) == sorted(
                    zip(core_of(other).places, core_of(other).factors))
                self.assertEqual(told is None, same)
                if told is None:
                    for where in all_places(one, other):
                        self.assertEqual(span(one, where), span(other, where))
                else:
                    self.tuples(told)
                    self.assertNotEqual(span(one, told), span(other, told))
                kinds[told is None] = kinds.get(told is None, 0) + 1
        self.assertTrue(min(kinds.values()) > 30, kinds)

    def test_great_numbers(self):
        for name, one in plains():
            if name.startswith(("great", "far")):
                self.assertIsNone(unlike_at(one, core_of(one)))
                moved = with_size(one, 0, fraction(one.factors[0]) * Fraction(10 ** 100 + 1, 10 ** 100)) \
                    if max(one.factors[0]) < 10 ** 40 else None
                if moved and 0 in showing_legs(one):
                    self.assertEqual(unlike_at(one, moved), self.by_words(one, moved))


if __name__ == "__main__":
    unittest.main()
