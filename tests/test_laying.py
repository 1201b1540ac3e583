"""Points 5.1 to 5.5: own weights, lots, margins, and whether any order holds."""

import random
import unittest
from fractions import Fraction
from itertools import combinations

from tests.helper import (
    Case, LAYOUTS, NOT_PLACES, NOT_SEQUENCES, NOT_WEIGHTS, ROWS, SMALL, corners, fits, fraction,
    great, lean_by_solving, place, plains, ratio,
)
from wherelaid.along import (
    mirrored, mirrored_loads, shifted, shifted_loads, stretched, stretched_loads, turned,
    turned_loads,
)
from wherelaid.doubts import greatest_doubt
from wherelaid.errors import BadLoads, BadLot, BadOwn, BadPlaces, NoSide
from wherelaid.hulls import sides_of
from wherelaid.laying import (
    Own, Tipping, any_order, beyond_side, check_lot, least_margins, margins_of, tipping_fault,
    tips_with,
)
from wherelaid.places import mirror_place, shift_place, stretch_place, turn_place
from wherelaid.settled import is_settled, settled_of
from wherelaid.skins import lower_at, range_of, upper_at

NOT_LOADS = (
    (0, "many", None), (0, "many", ((ratio(0), place(0, 0)),) * 9), (0, "load", [None]),
    (1, "weight", [(ratio(0), place(0, 0)), (1, None)]), (0, "place", [(ratio(0), (0, 0))]))


def sample():
    """The second example of the document: its places, its own weight and its loads."""
    return corners(), Own(ratio(10), place(2, 1)), ((ratio(30), place(5, 1)),)


def lots_by_size(many):
    """All lots of so many loads, fewer loads first, equally many ascending."""
    return [lot for size in range(many + 1) for lot in combinations(range(many), size)]


def layings(seed=1, each=5, most=5):
    """Names, places, own weights and loads: within, on sides, in rows, beyond, of weight 0."""
    lot = random.Random(seed)
    for name, places in LAYOUTS.items():
        if name in ("great", "far"):
            continue
        for number in range(each):
            own = mixed(places, [lot.randint(0, 3) for _ in places], lot)
            loads = []
            for _ in range((0, 1, most, 2, 3)[number % 5]):
                one, two = lot.choice(places), lot.choice(places)
                part = Fraction(lot.choice((-3, -1, 0, 1, 2, 3, 5)), 3)
                where = tuple(ratio(fraction(a) + part * (fraction(b) - fraction(a))) for a, b in zip(one, two))
                if name not in ROWS or lot.random() < 0.2:
                    where = (where[0], ratio(fraction(where[1]) + lot.choice((0, 0, 1, -1))))
                loads.append((ratio(Fraction(lot.randint(0, 6), 2)), where))
            yield f"{name} {number}", places, Own(ratio(lot.choice((0, 1, 3, 9, 20))), own), tuple(loads)


def mixed(places, shares, lot):
    """A place within: the mean of the places with these shares, some place if all are 0."""
    if not any(shares):
        return lot.choice(places)
    return tuple(ratio(sum(fraction(one[axis]) * share for one, share in zip(places, shares)) / sum(shares))
                 for axis in (0, 1))


def holds(places, own, loads, lot):
    """Whether some pushes fit the own weight and the loads of the lot."""
    return bool(lean_by_solving(places, [own.as_load, *[loads[one] for one in lot]]))


def depth(side, where):
    return sum(number * fraction(part) for number, part in zip(side.normal, where)) - fraction(side.least)


class Owns(Case):

    def test_attributes(self):
        one = Own(ratio("3/2"), [ratio(1), ratio(2)])
        self.assertEqual((one.weight, one.place), (ratio("3/2"), place(1, 2)))
        self.assertEqual(one.as_load, (ratio("3/2"), place(1, 2)))
        self.tuples(one.as_load)
        where = [ratio(1), ratio(2)]
        kept = Own(ratio(0), where)
        where[0] = ratio(9)
        self.assertEqual(kept.place, place(1, 2))
        self.assertEqual(Own((SMALL, 1), (great(12, 1), great(12, 2))).place, (great(12, 1), great(12, 2)))

    def test_refusals(self):
        for weight in NOT_WEIGHTS:
            self.refuses(BadOwn, ("weight",), Own, weight, place(0, 0))
            self.refuses(BadOwn, ("weight",), Own, weight, None)
        for where in NOT_PLACES:
            self.refuses(BadOwn, ("place",), Own, ratio(0), where)

    def test_equality(self):
        self.told_apart(Own(ratio(1), place(1, 2)), {"weight": ratio(2), "place": place(2, 1)})
        self.told_apart(Tipping(1, (0,)), {"side": 2, "lot": ()})
        self.alike(Own(ratio(1), list(place(1, 2))), Own(ratio(1), place(1, 2)))


class Lots(Case):

    def test_any_order_of_numbers(self):
        loads = [(ratio(1), place(0, k)) for k in range(4)]
        for lot, told in (((), ()), ([], ()), ((3, 0, 2), (0, 2, 3)), ([1], (1,)), ((3, 2, 1, 0), (0, 1, 2, 3))):
            self.assertEqual(check_lot(loads, lot), told)
            self.tuples(check_lot(loads, lot))
        lot = [2, 1]
        check_lot(loads, lot)
        self.assertEqual(lot, [2, 1])
        self.assertEqual(check_lot((), ()), ())

    def test_refusals(self):
        places, own, _ = sample()
        loads = [(ratio(1), place(0, k)) for k in range(4)]
        for lot in NOT_SEQUENCES + (
                (0, 0), [1, 2, 1], (4,), (-1,), (True,), (0, None), ("0",), (0, (1,)), ([0],), (0.0,)):
            if isinstance(lot, range):
                continue
            self.refuses(BadLot, (lot,), check_lot, loads, lot)
            for call in (margins_of, tips_with):
                self.refuses(BadLot, (lot,), call, places, own, loads, lot)
        self.refuses(BadLot, ((0,),), check_lot, (), (0,))
        for index, word, bad in NOT_LOADS:
            self.refuses(BadLoads, (index, word), check_lot, bad, None)


class Margins(Case):

    def test_sample(self):
        places, own, loads = sample()
        self.assertEqual(margins_of(places, own, loads, ()), tuple(ratio(size) for size in (10, 20, 10, 20)))
        self.assertEqual(margins_of(places, own, loads, (0,)), tuple(ratio(size) for size in (40, -10, 40, 170)))
        self.assertIsNone(tips_with(places, own, loads, ()))
        self.assertEqual(tips_with(places, own, loads, (0,)), 1)
        self.assertEqual([beyond_side(places, loads, side) for side in range(4)], [(), (0,), (), ()])
        self.assertEqual(least_margins(places, own, loads), tuple(ratio(size) for size in (10, -10, 10, 20)))
        self.assertEqual(any_order(places, own, loads), Tipping(1, (0,)))
        self.assertIsNone(any_order(places, Own(ratio(15), place(2, 1)), loads))

    def test_by_the_words(self):
        for name, places, own, loads in layings(2):
            sides = sides_of(places)
            rows = {}
            for lot in lots_by_size(len(loads)):
                told = self.takes_lists(margins_of, places, own, loads, lot[::-1])
                want = [fraction(own.weight) * depth(side, own.place)
                        + sum(fraction(loads[one][0]) * depth(side, loads[one][1]) for one in lot)
                        for side in sides]
                self.assertEqual([fraction(margin) for margin in told], want)
                self.tuples(told)
                rows[lot] = want
                tips = tips_with(places, own, loads, lot)
                below = [number for number, margin in enumerate(want) if margin < 0]
                self.assertEqual(tips, below[0] if below else None)
                self.assertEqual(tips is None, holds(places, own, loads, lot), name)
            least = [min(row[number] for row in rows.values()) for number in range(len(sides))]
            self.assertEqual([fraction(one) for one in least_margins(places, own, loads)], least)
            for number, side in enumerate(sides):
                lot = beyond_side(places, loads, number)
                self.assertEqual(lot, tuple(one for one, (weight, where) in enumerate(loads)
                                            if weight[0] > 0 and depth(side, where) < 0))
                self.assertEqual(rows[lot][number], least[number])
                self.tuples(lot)

    def test_edges(self):
        places = corners()
        own = Own(ratio(0), place(4, 2))
        zero = (ratio(0), place(99, 99))
        self.assertEqual(margins_of(places, own, (zero,), (0,)), (ratio(0),) * 4)
        self.assertIsNone(any_order(places, own, (zero,) * 8))
        self.assertEqual(beyond_side(places, (zero, (ratio(1), place(99, 99))), 1), (1,))
        rim = [(ratio(3), place(4, 1)), (ratio(5), place(0, 0)), (ratio(2), place(2, 1))]
        self.assertIsNone(any_order(places, own, rim))
        # On the line of side 0, but beyond side 1.
        line = [(ratio(1), place(6, 0))]
        self.assertEqual(any_order(places, own, line), Tipping(1, (0,)))
        self.assertEqual(beyond_side(places, line, 0), ())
        self.assertIsNone(any_order(places, Own(ratio(2), place(2, 1)), [(ratio(2), place(6, 1))]))
        eight = [(ratio("1/4"), place(6, 1))] * 8
        self.assertIsNone(any_order(places, Own(ratio(2), place(2, 1)), eight))
        self.assertEqual(any_order(places, Own(ratio("199/100"), place(2, 1)), eight), Tipping(1, tuple(range(8))))

    def test_rows(self):
        places = LAYOUTS["three in a row"]
        sides = sides_of(places)
        own = Own(ratio(3), place(2, 1))
        self.assertEqual(len(sides), 4)
        self.assertEqual([fraction(size) for size in margins_of(places, own, (), ())][:2], [0, 0])
        off = [(ratio("1/9"), place(2, "3/2"))]
        self.assertEqual(any_order(places, own, off).lot, (0,))
        self.assertIn(any_order(places, own, off).side, (0, 1))
        self.assertIsNone(any_order(places, own, [(ratio(1), place(-2, -1)), (ratio(1), place(7, "7/2"))]))
        self.assertEqual(any_order(places, own, [(ratio(4), place(-2, -1))]).side, 2)

    def test_great_numbers(self):
        places = LAYOUTS["great"]
        own = Own(great(12, 77), places[2])
        loads = [(great(12, k), (great(12, 2 * k + 1), great(12, 40 - k))) for k in range(6)]
        for lot in ((), (0, 3), (5, 4, 3, 2, 1, 0)):
            want = [fraction(own.weight) * depth(side, own.place)
                    + sum(fraction(loads[one][0]) * depth(side, loads[one][1]) for one in lot)
                    for side in sides_of(places)]
            self.assertEqual([fraction(one) for one in margins_of(places, own, loads, lot)], want)
        told = any_order(places, own, loads)
        self.assertEqual(told is None, all(holds(places, own, loads, lot) for lot in lots_by_size(6)))


class AnyOrder(Case):

    def test_exactly_if_every_lot_holds(self):
        kinds = set()
        for name, places, own, loads in layings(3, 10):
            told = self.takes_lists(any_order, places, own, loads)
            kinds.add(type(told))
            every = all(holds(places, own, loads, lot) for lot in lots_by_size(len(loads)))
            self.assertEqual(told is None, every, name)
            self.assertIsNone(tipping_fault(places, own, loads, told) if told else None)
            if told is not None:
                least = least_margins(places, own, loads)
                self.assertEqual(told.side, [one[0] < 0 for one in least].index(True))
                self.assertEqual(told.lot, beyond_side(places, loads, told.side))
        self.assertEqual(kinds, {type(None), Tipping})

    def test_led_along(self):
        size, by = ratio("3/2"), place("-7/3", 5)
        for name, places, own, loads in layings(4, 4):
            told = any_order(places, own, loads)
            for lead, lead_loads in (
                    (lambda one: shift_place(one, by), lambda rows: shifted_loads(rows, by)),
                    (turn_place, turned_loads), (mirror_place, mirrored_loads),
                    (lambda one: stretch_place(one, size), lambda rows: stretched_loads(rows, size))):
                other = any_order([lead(one) for one in places], Own(own.weight, lead(own.place)), lead_loads(loads))
                self.assertEqual(other is None, told is None, name)

    def test_scales_led_along(self):
        size, by = ratio("3/2"), place("-7/3", 5)
        for name, one in plains():
            if name.startswith(("great", "far")) or name.endswith(("0", "4")):
                continue
            loads = ((ratio(1), one.places[0]), (ratio(2), one.places[1]), (ratio("1/2"), one.places[-1]))
            told = range_of(one, loads)
            where = one.places[0]
            for made, rows, there in (
                    (shifted(one, by), shifted_loads(loads, by), shift_place(where, by)),
                    (turned(one), turned_loads(loads), turn_place(where)),
                    (mirrored(one), mirrored_loads(loads), mirror_place(where)),
                    (stretched(one, size), stretched_loads(loads, size), stretch_place(where, size))):
                self.assertEqual(made.factors, one.factors)
                other = range_of(made, rows)
                self.assertEqual((other.least, other.greatest), (told.least, told.greatest))
                self.assertTrue(fits(made.places, rows, told.low_pushes))
                self.assertEqual(lower_at(made, there), lower_at(one, where))
                self.assertEqual(upper_at(made, there), upper_at(one, where))
                self.assertEqual(is_settled(made), is_settled(one))
                self.assertEqual(type(settled_of(made)), type(settled_of(one)))
                self.assertEqual(greatest_doubt(made).size, greatest_doubt(one).size)


class Judging(Case):

    def test_words(self):
        places, own, loads = sample()
        loads = loads + ((ratio(1), place(2, 1)), (ratio(1), place(5, 1)))
        for thing in (None, True, 0, "tips", (), [], (1, (0,)), Tipping):
            self.assertEqual(tipping_fault(places, own, loads, thing), "kind")
        for lot in ((0,), (0, 1), (0, 2), (0, 1, 2)):
            self.assertIsNone(tipping_fault(places, own, loads, Tipping(1, lot)))
        for side in (-1, 4, None, True, "1", (1,), [1], 1.0):
            for lot in ((0,), None):
                self.assertEqual(tipping_fault(places, own, loads, Tipping(side, lot)), "side")
        for lot in (None, 0, [0], (2, 0), (0, 0), (3,), (-1,), (True,), ("0",), {0: 1}, "0", ((0,),), (0, None)):
            for side in (1, 0):
                self.assertEqual(tipping_fault(places, own, loads, Tipping(side, lot)), "lot")
        for side, lot in ((0, (0,)), (2, (0,)), (3, (0, 1)), (1, ()), (1, (1,)), (1, (2,)), (1, (1, 2))):
            self.assertEqual(tipping_fault(places, own, loads, Tipping(side, lot)), "holds")
        # A margin of just 0 holds.
        self.assertEqual(tipping_fault(places, Own(ratio(15), place(2, 1)), loads[:1], Tipping(1, (0,))), "holds")

    def test_all_lots_and_sides(self):
        for _, places, own, loads in layings(5, 3, 4):
            for lot in lots_by_size(len(loads)):
                for side, margin in enumerate(margins_of(places, own, loads, lot)):
                    told = tipping_fault(places, own, loads, Tipping(side, lot))
                    self.assertEqual(told, None if margin[0] < 0 else "holds")


class Refusals(Case):

    def test_order(self):
        places, own, loads = sample()
        out = Own(ratio(0), place(5, 1))
        for call, rest in ((margins_of, ((),)), (tips_with, ((),)), (least_margins, ()), (any_order, ()),
                           (tipping_fault, (None,))):
            self.refuses(BadPlaces, (0, "many"), call, places[:1], out, None, *rest)
            self.refuses(BadPlaces, (1, "twice"), call, places[:1] * 2, out, None, *rest)
            self.refuses(BadOwn, ("hull",), call, places, out, None, *rest)
            self.refuses(BadOwn, ("hull",), call, places, out, loads, *rest)
            for index, word, bad in NOT_LOADS:
                self.refuses(BadLoads, (index, word), call, places, own, bad, *rest)
        for index, word, bad in NOT_LOADS:
            self.refuses(BadLoads, (index, word), beyond_side, places, bad, None)
        self.refuses(BadPlaces, (0, "many"), beyond_side, (), None, None)
        for side in (-1, 4, None, True, "0", (0,)):
            self.refuses(NoSide, (side,), beyond_side, places, loads, side)
        self.takes_lists(beyond_side, places, loads, 1)
        self.takes_lists(least_margins, places, own, loads)
        self.takes_lists(tips_with, places, own, loads, (0,))
        self.takes_lists(tipping_fault, places, own, loads, Tipping(1, (0,)))
        self.takes_lists(check_lot, loads, (0,))


if __name__ == "__main__":
    unittest.main()
