"""Points 5.6 to 5.10: own weights, growth and further loads that keep any order holding."""

import random
import unittest
from fractions import Fraction

from tests.helper import (
    Case, LAYOUTS, NOT_PLACES, NOT_RATIOS, NOT_SEQUENCES, NOT_WEIGHTS, ROWS, SMALL, corners,
    fraction, great, place, ratio,
)
from tests.test_laying import NOT_LOADS, depth, layings, sample
from wherelaid.errors import (
    BadLoads, BadOwn, BadPlace, BadPlaces, BadWeight, BeyondSide, TipsAlready,
)
from wherelaid.hulls import corner_points, is_within, side_beyond, sides_of
from wherelaid.laying import Own, any_order, beyond_side
from wherelaid.steady import (
    BestOwn, NoOwn, best_fault, best_own, greatest_further, greatest_growth, least_own,
    safe_places,
)

LITTLE = Fraction(1, 1000)


def need(side, loads):
    """The sum of weight * depth over the loads beyond, with the other sign."""
    return -sum(min(Fraction(0), fraction(weight) * depth(side, where)) for weight, where in loads)


def holds(places, weight, where, loads):
    """Whether any order holds with this own weight of any size, by needs and depths."""
    return all(weight * depth(side, where) >= need(side, loads) for side in sides_of(places))


def grown(loads, size):
    """The loads multiplied, the weights as Fractions made ratios."""
    return tuple((ratio(fraction(weight) * size), where) for weight, where in loads)


def in_hull(points, where):
    """Whether the place is in the hull of these corners, in a turn counterclockwise."""
    if len(points) == 1:
        return points[0] == where
    for one, two in zip(points, points[1:] + points[:1]):
        ax, ay, bx, by = [fraction(part) for part in one + two]
        if (bx - ax) * (fraction(where[1]) - ay) < (by - ay) * (fraction(where[0]) - ax):
            return False
    if len(points) == 2:
        return all(min(fraction(points[0][axis]), fraction(points[1][axis])) <= fraction(where[axis])
                   <= max(fraction(points[0][axis]), fraction(points[1][axis])) for axis in (0, 1))
    return True


class LeastOwn(Case):

    def test_samples(self):
        places, _, loads = sample()
        self.assertEqual(least_own(places, loads, place(2, 1)), ratio(15))
        self.assertEqual(least_own(places, loads, place(0, 0)), ratio("15/2"))
        self.assertEqual(least_own(places, loads, place(4, 1)), NoOwn(1, (0,)))
        self.assertEqual(least_own(places, (), place(4, 2)), ratio(0))
        self.assertEqual(least_own(places, ((ratio(0), place(99, 1)),), place(4, 2)), ratio(0))
        two = loads + ((ratio(1), place(2, 5)), (ratio(0), place(9, 9)), (ratio(1), place(7, -1)))
        # Side 0 and side 1 with needs above 0: the first one with depth 0 is told.
        self.assertEqual(least_own(places, two, place(4, 0)), NoOwn(0, (3,)))
        self.assertEqual(least_own(places, two, place(4, 2)), NoOwn(1, (0, 3)))
        self.assertEqual(least_own(places, two, place(3, 2)), NoOwn(2, (1,)))

    def test_by_the_words(self):
        kinds = set()
        for name, places, own, loads in layings(11, 8):
            told = self.takes_lists(least_own, places, loads, own.place)
            kinds.add(type(told))
            sides = sides_of(places)
            flat = [number for number, side in enumerate(sides)
                    if need(side, loads) > 0 and depth(side, own.place) == 0]
            if flat:
                self.assertEqual(told, NoOwn(flat[0], beyond_side(places, loads, flat[0])))
                self.assertFalse(holds(places, Fraction(10 ** 99), own.place, loads))
            else:
                self.tuples(told)
                self.assertTrue(holds(places, fraction(told), own.place, loads), name)
                self.assertIsNone(any_order(places, Own(told, own.place), loads))
                if told[0]:
                    less = fraction(told) * (1 - LITTLE)
                    self.assertFalse(holds(places, less, own.place, loads))
                    self.assertIsNotNone(any_order(places, Own(ratio(less), own.place), loads))
        self.assertEqual(kinds, {tuple, NoOwn})

    def test_weights_of_any_size(self):
        where = (ratio(Fraction(1, SMALL)), ratio(1))
        told = least_own(corners(), [((SMALL, 1), place(-1, 1))], where)
        self.assertEqual(told, (SMALL ** 2, 1))

    def test_refusals(self):
        places, _, loads = sample()
        self.refuses(BadPlaces, (0, "many"), least_own, places[:1], None, None)
        for index, word, bad in NOT_LOADS:
            self.refuses(BadLoads, (index, word), least_own, places, bad, None)
        for where in NOT_PLACES:
            self.refuses(BadPlace, (where,), least_own, places, loads, where)
        for where in (place(5, 1), place(-1, -1), place(2, "201/100")):
            self.refuses(BeyondSide, (side_beyond(places, where),), least_own, places, loads, where)


class Growth(Case):

    def test_samples(self):
        places, own, loads = sample()
        self.assertEqual(greatest_growth(places, own, loads), ratio("2/3"))
        self.assertIsNone(greatest_growth(places, own, [(ratio(5), place(4, 2)), (ratio(0), place(9, 9))]))
        self.assertIsNone(greatest_growth(places, own, ()))
        self.assertEqual(greatest_growth(places, Own(ratio(0), place(1, 1)), loads), ratio(0))
        self.assertEqual(greatest_growth(places, Own(ratio(9), place(4, 1)), loads), ratio(0))

    def test_by_the_words(self):
        kinds = set()
        for name, places, own, loads in layings(12, 8):
            told = self.takes_lists(greatest_growth, places, own, loads)
            kinds.add(type(told))
            if told is None:
                self.assertIsNone(any_order(places, own, grown(loads, 10 ** 9)), name)
                continue
            size = fraction(told)
            self.assertIsNone(any_order(places, own, grown(loads, size)))
            self.assertIsNone(any_order(places, own, grown(loads, size * Fraction(2, 3))))
            self.assertIsNotNone(any_order(places, own, grown(loads, size + LITTLE)))
        self.assertEqual(kinds, {tuple, type(None)})

    def test_refusals(self):
        places, own, loads = sample()
        out = Own(ratio(0), place(5, 1))
        for call, rest in ((greatest_growth, ()), (greatest_further, (None,)), (safe_places, (None,))):
            self.refuses(BadPlaces, (0, "many"), call, None, out, None, *rest)
            self.refuses(BadOwn, ("hull",), call, places, out, None, *rest)
            for index, word, bad in NOT_LOADS:
                self.refuses(BadLoads, (index, word), call, places, own, bad, *rest)


class Further(Case):

    def test_samples(self):
        places, own, _ = sample()
        self.assertEqual(greatest_further(places, own, (), place(5, 1)), ratio(20))
        self.assertEqual(greatest_further(places, own, (), place(6, 3)), ratio(10))
        self.assertEqual(greatest_further(places, own, [(ratio(4), place(9, 1))], place(5, 1)), ratio(0))
        self.assertIsNone(greatest_further(places, own, [(ratio(4), place(9, 1))], place(4, 1)))
        self.assertIsNone(greatest_further(places, own, (), place(0, 0)))
        # On the line of a side, and not within.
        self.assertEqual(greatest_further(places, own, (), place(6, 0)), ratio(10))

    def test_by_the_words(self):
        lot = random.Random(8)
        kinds = set()
        for name, places, own, loads in layings(13, 10):
            where = place(Fraction(lot.randint(-9, 20), 2), Fraction(lot.randint(-9, 20), 2))
            if name.startswith(ROWS) and lot.random() < 0.7:
                where = tuple(ratio(2 * fraction(a) - fraction(b)) for a, b in zip(places[0], places[1]))
            tipping = any_order(places, own, loads)
            if tipping is not None:
                self.refuses(TipsAlready, (tipping.side, tipping.lot), greatest_further, places, own, loads, where)
                continue
            told = self.takes_lists(greatest_further, places, own, loads, where)
            kinds.add(type(told))
            self.assertEqual(told is None, is_within(places, where))
            if told is None:
                self.assertIsNone(any_order(places, own, loads + ((ratio(10 ** 9), where),)))
            else:
                more = ratio(fraction(told) + LITTLE)
                self.assertIsNone(any_order(places, own, loads + ((told, where),)))
                self.assertIsNotNone(any_order(places, own, loads + ((more, where),)))
        self.assertEqual(kinds, {tuple, type(None)})

    def test_refusals(self):
        places, own, loads = sample()
        for where in NOT_PLACES:
            self.refuses(BadPlace, (where,), greatest_further, places, own, loads, where)
        self.refuses(TipsAlready, (1, (0,)), greatest_further, places, own, loads, place(2, 1))
        for weight in NOT_WEIGHTS + ((0, 1),):
            self.refuses(BadWeight, (weight,), safe_places, places, own, loads, weight)
        self.refuses(TipsAlready, (1, (0,)), safe_places, places, own, loads, ratio(1))


class Safe(Case):

    def test_samples(self):
        places, own, _ = sample()
        self.assertEqual(safe_places(places, own, (), ratio(10)),
                         (place(-2, -1), place(6, -1), place(6, 3), place(-2, 3)))
        self.assertEqual(safe_places(places, own, [(ratio(4), place(9, 1))], ratio(1)),
                         (place(-20, -10), place(4, -10), place(4, 12), place(-20, 12)))
        bare = Own(ratio(0), place(0, 0))
        self.assertEqual(safe_places(places, bare, (), ratio(1)), corners())
        # Sides that end behind those that meet before: a corner of the hull is cut off wide.
        five = LAYOUTS["five"]
        told = safe_places(five, Own(ratio(9), five[0]), (), ratio(1))
        self.assertIn(five[0], told)

    def test_rows(self):
        row = LAYOUTS["three in a row"]
        told = safe_places(row, Own(ratio(3), place(2, 1)), (), ratio(1))
        self.assertEqual(told, (place(-6, -3), place(18, 9)))
        self.assertEqual(safe_places(row, Own(ratio(0), place(2, 1)), (), ratio(1)), (place(0, 0), place(6, 3)))

    def test_by_the_words(self):
        lot = random.Random(9)
        tried = {True: 0, False: 0}
        for name, places, own, loads in layings(14, 6):
            if any_order(places, own, loads) is not None:
                continue
            weight = ratio(Fraction(lot.randint(1, 8), lot.randint(1, 4)))
            told = self.takes_lists(safe_places, places, own, loads, weight)
            self.tuples(told)
            self.assertEqual(told, corner_points(told))
            self.assertTrue(all(in_hull(told, one) for one in places), name)
            for _ in range(12):
                shares = [lot.randint(-1, 3) for _ in told]
                shares[0] += 1 - sum(shares)
                where = tuple(ratio(sum(share * fraction(one[axis]) for share, one in zip(shares, told)))
                              for axis in (0, 1))
                safe = any_order(places, own, loads + ((weight, where),)) is None
                self.assertEqual(safe, in_hull(told, where), name)
                tried[safe] += 1
        self.assertTrue(min(tried.values()) > 100, tried)


class Best(Case):

    def check(self, places, loads):
        told = self.takes_lists(best_own, places, loads)
        sides = sides_of(places)
        needs = [need(side, loads) for side in sides]
        if isinstance(told, NoOwn):
            first = [number for number in (0, 1) if needs[number] > 0][0]
            self.assertEqual(told, NoOwn(first, beyond_side(places, loads, first)))
            return told
        self.assertIs(type(told), BestOwn)
        self.tuples((told.weight, told.place, told.shares))
        weight = fraction(told.weight)
        self.assertTrue(all(depth(side, told.place) >= 0 for side in sides))
        self.assertTrue(holds(places, weight, told.place, loads))
        if weight == 0:
            self.assertEqual(told.shares, ())
            self.assertFalse(any(needs))
        else:
            self.assertLessEqual(len(told.shares), 3)
            numbers = [number for number, _ in told.shares]
            self.assertEqual(numbers, sorted(set(numbers)))
            self.assertTrue(all(share[0] > 0 for _, share in told.shares))
            rows = [(sides[number], fraction(share), needs[number]) for number, share in told.shares]
            for axis in (0, 1):
                self.assertEqual(sum(share * side.normal[axis] for side, share, _ in rows), 0)
            self.assertEqual(sum(share * fraction(side.least) for side, share, _ in rows), -1)
            self.assertEqual(sum(share * size for _, share, size in rows), weight)
        self.assertIsNone(best_fault(places, loads, told))
        return told

    def test_sample(self):
        places, _, loads = sample()
        told = self.check(places, loads)
        self.assertEqual(told.weight, ratio("15/2"))
        self.assertEqual(told.place[0], ratio(0))
        self.assertEqual(told.shares, ((1, ratio("1/4")), (3, ratio("1/4"))))

    def test_all_layouts(self):
        kinds = set()
        for name, places, own, loads in layings(15, 12, 7):
            kinds.add(type(self.check(places, loads)))
            told = best_own(places, loads)
            if isinstance(told, BestOwn):
                # No own weight at the places at hand will do with less.
                for where in (*places, own.place):
                    other = least_own(places, loads, where)
                    if not isinstance(other, NoOwn):
                        self.assertGreaterEqual(fraction(other), fraction(told.weight))
        self.assertEqual(kinds, {BestOwn, NoOwn})

    def test_three_sides(self):
        loads = [(ratio(1), place(-1, -1)), (ratio(1), place(8, -1)), (ratio(1), place(-1, 8))]
        self.assertEqual(len(self.check(LAYOUTS["triangle"], loads).shares), 3)

    def test_rows(self):
        row = LAYOUTS["three in a row"]
        self.check(row, [(ratio(2), place(-2, -1)), (ratio(1), place(8, 4))])
        self.assertEqual(best_own(row, [(ratio(2), place(2, 1)), (ratio(0), place(0, 9))]).weight, ratio(0))
        for where, side in ((place(2, 0), 0), (place(2, 2), 1), (place(9, 0), 0)):
            told = self.check(row, [(ratio(1), place(-2, -1)), (ratio(2), where), (ratio(0), place(5, 5))])
            self.assertEqual(told, NoOwn(side, (1,)))
        both = [(ratio(1), place(0, 1)), (ratio(1), place(0, -1)), (ratio(1), place(0, -2))]
        self.assertEqual(best_own(row, both), NoOwn(0, (1, 2)))

    def test_great_numbers(self):
        for name in ("great", "far"):
            loads = [(great(12, k), (great(12, 50 * k + 1), great(12, 900 - k))) for k in range(8)]
            self.check(LAYOUTS[name], loads)
            self.check(LAYOUTS[name], [(great(12, 2), place(SMALL, 5)), (great(12, 2), place(-SMALL, 7))])

    def test_refusals(self):
        for call, rest in ((best_own, ()), (best_fault, (None,))):
            self.refuses(BadPlaces, (0, "many"), call, None, None, *rest)
            for index, word, bad in NOT_LOADS:
                self.refuses(BadLoads, (index, word), call, corners(), bad, *rest)

    def test_equality(self):
        self.told_apart(NoOwn(1, (0,)), {"side": 0, "lot": ()})
        self.told_apart(BestOwn(ratio(1), place(0, 0), ()),
                        {"weight": ratio(2), "place": place(1, 0), "shares": None})
        self.unlike(NoOwn(1, (0,)), BestOwn(1, (0,), ()))


class Judging(Case):

    def judge(self, loads=None, **parts):
        row = {"weight": ratio("15/2"), "place": place(0, 1), "shares": ((1, ratio("1/4")), (3, ratio("1/4")))}
        row.update(parts)
        return best_fault(corners(), sample()[2] if loads is None else loads, BestOwn(**row))

    def test_right_ones(self):
        self.assertIsNone(self.judge())
        self.assertIsNone(self.judge(place=place(0, 0)))
        self.assertIsNone(self.judge(place=place(0, 2)))
        # More than three couples are let, if the sums are right.
        shares = ((0, ratio("1/4")), (1, ratio("1/8")), (2, ratio("1/4")), (3, ratio("1/8")))
        loads = [(ratio(2), place(5, 1)), (ratio(1), place(2, 3))]
        self.assertIsNone(self.judge(loads, weight=ratio("1/2"), place=place(0, 0), shares=shares))
        less = ((1, ratio("1/8")), (2, ratio("1/4")), (3, ratio("1/8")))
        self.assertEqual(self.judge(loads, weight=ratio("1/2"), place=place(0, 0), shares=less), "shares")
        self.assertIsNone(self.judge((), weight=ratio(0), place=place(1, 1), shares=()))

    def test_kinds_and_weights(self):
        for thing in (None, True, 0, "best", (), [], BestOwn, NoOwn(1, (0,)), (ratio(1), place(0, 0), ())):
            self.assertEqual(best_fault(corners(), (), thing), "kind")
        for weight in NOT_RATIOS + ((-1, 1), (-1, SMALL + 1)):
            self.assertEqual(self.judge(weight=weight), "weight")
            self.assertEqual(self.judge(weight=weight, place=None, shares=None), "weight")

    def test_places(self):
        for where in (None, 0, (), list(place(0, 1)), (0, 1), (ratio(0),), place(0, 1) + (ratio(0),), (ratio(0), 1),
                      (ratio(0), (2, 2)), place(-1, 1), place(5, 1), (ratio(0), (2 * SMALL + 1, SMALL)), "ab"):
            self.assertEqual(self.judge(place=where), "place")
            self.assertEqual(self.judge(place=where, shares=None), "place")
        # A place of any size, and a weight of any size.
        inner = (ratio(0), (SMALL + 7, SMALL + 6))
        self.assertIsNone(self.judge(place=inner))
        self.assertEqual(self.judge(place=inner, weight=(15 * SMALL ** 2 + 1, 2 * SMALL ** 2)), "bound")

    def test_tips(self):
        for parts in ({"weight": ratio("149/20")}, {"place": place("1/99", 1)}, {"weight": ratio(0)},
                      {"weight": ratio(0), "shares": ()}, {"weight": ratio(7), "shares": None}):
            self.assertEqual(self.judge(**parts), "tips")

    def test_shares(self):
        one, three = (1, ratio("1/4")), (3, ratio("1/4"))
        for shares in NOT_SEQUENCES + (
                (), [one, three], (three, one), (one,), (one, one), (one, three, three), (one, 3), (one, (3,)),
                (one, None), ((1, ratio("1/4")), (4, ratio("1/4"))), ((-3, ratio("1/4")), three),
                ((-1, ratio("1/4")), one),
                ((True, ratio("1/4")), three), (one, (3, (2, 8))), (one, (3, ratio("1/5"))), (one, (3, 1)),
                ((0, ratio(0)), one, three), (one, (3, (-1, 4))), ((1, ratio("1/2")), (3, ratio("1/2"))),
                ((0, ratio("1/4")), (1, ratio("1/4"))), ((0, ratio("1/2")), (2, ratio("1/4"))),
                ((0, ratio("1/9")), one, three)):
            self.assertEqual(self.judge(shares=shares), "shares")
            self.assertEqual(self.judge(weight=ratio(8), shares=shares), "shares")
        self.assertEqual(self.judge((), weight=ratio(0), shares=(one, three)), "shares")
        self.assertEqual(self.judge((), weight=ratio(0), shares=[]), "shares")
        self.assertEqual(self.judge((), weight=ratio(0), shares=None), "shares")

    def test_bound(self):
        self.assertEqual(self.judge(weight=ratio(8)), "bound")
        self.assertEqual(self.judge(shares=((0, ratio("1/2")), (2, ratio("1/2")))), "bound")
        self.assertEqual(self.judge((), weight=ratio(1)), "bound")

    def test_great_weights_tip_nothing(self):
        for name, places, _, loads in layings(16, 3):
            told = best_own(places, loads)
            if isinstance(told, BestOwn):
                more = BestOwn((told.weight[0] + told.weight[1], told.weight[1]), told.place, told.shares)
                self.assertIn(best_fault(places, loads, more), ("bound", "shares"), name)


if __name__ == "__main__":
    unittest.main()
