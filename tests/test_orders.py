"""Points 5.11 to 5.13: moves, orders of laying, and lots that hold."""

import random
import unittest
from itertools import permutations
from math import factorial

from tests.helper import Case, LAYOUTS, NOT_SEQUENCES, corners, great, place, ratio
from tests.test_laying import NOT_LOADS, holds, layings, lots_by_size, sample
from wherelaid.errors import BadLoads, BadLot, BadOwn, BadPlaces, LotTips, NoOrder
from wherelaid.laying import Own, any_order, tips_with
from wherelaid.orders import (
    Stuck, holding_lots, laid_before, moves_fault, orders_many, some_moves, some_order,
    stuck_fault,
)


def balance(*loads):
    """Four legs, a light own weight in the middle, and loads (weight, x) at y = 1."""
    return corners(), Own(ratio(2), place(2, 1)), tuple((ratio(weight), place(x, 1)) for weight, x in loads)


# Loads that keep each other: 0 and 1 are far out to the right, 2 and 3 to the left.
KEPT = balance((4, 5), (4, 6), (4, -1), (4, -2))


def shortest(good, start, goal, many, taking):
    """The least of the shortest rows of moves, by going through rows of moves level by level."""
    rows = [((), start)]
    seen = {start}
    while rows:
        for moves, lot in rows:
            if lot == goal:
                return moves
        found = []
        for moves, lot in rows:
            for move in range(many):
                if move not in lot or taking:
                    after = tuple(sorted(set(lot) ^ {move}))
                    if after in good:
                        found.append(((*moves, move), after))
        rows = [row for at, row in enumerate(sorted(found)) if row[1] not in seen]
        least = {}
        for moves, lot in rows:
            least.setdefault(lot, moves)
        rows = sorted((moves, lot) for lot, moves in least.items())
        seen.update(least)
    return None


def reached(good, start, many, taking):
    found = [start]
    for lot in found:
        for move in range(many):
            after = tuple(sorted(set(lot) ^ {move}))
            if (move not in lot or taking) and after in good and after not in found:
                found.append(after)
    return tuple(sorted(found, key=lambda lot: (len(lot), lot)))


class Moves(Case):

    def test_samples(self):
        # The left and the right loads are laid in turn.
        places, own, loads = balance((2, 5), (2, 5), (2, -1), (2, -1))
        self.assertEqual(some_moves(places, own, loads, (), (0, 1, 2, 3)), (0, 1, 2, 3))
        places, own, loads = balance((4, 5), (4, 5), (4, -1), (4, -1))
        self.assertEqual(some_moves(places, own, loads, (), (0, 1, 2, 3)), (0, 2, 1, 3))
        self.assertEqual(some_moves(places, own, loads, (0, 2), (0, 2)), ())
        self.assertEqual(some_moves(places, own, loads, (0,), ()), Stuck(((0,), (0, 2), (0, 3), (0, 1, 2), (0, 1, 3), (
            0, 2, 3), (0, 1, 2, 3))))
        self.assertEqual(some_moves(places, own, loads, (0,), (), taking=True), (0,))
        self.assertEqual(some_moves(places, own, loads, (2, 0), [1, 3], taking=True), (0, 1, 2, 3))

    def test_taking_off_to_come_along(self):
        # Loads 0 and 1 keep each other, but the first of them needs load 2 for a while.
        places, own, loads = balance((6, 5), (6, -1), (1, 2))
        self.assertEqual(some_moves(places, own, loads, (), (0, 1)), Stuck(
            ((), (2,), (0, 2), (1, 2), (0, 1, 2))))
        self.assertEqual(some_moves(places, own, loads, (), (0, 1), taking=True), (2, 0, 1, 2))
        self.assertIsNone(moves_fault(places, own, loads, (), (0, 1), (2, 1, 0, 2), taking=True))

    def test_against_going_through(self):
        lot = random.Random(1)
        kinds = set()
        for name, places, own, loads in layings(31, 8, 4):
            many = len(loads)
            lots = lots_by_size(many)
            good = [one for one in lots if holds(places, own, loads, one)]
            for _ in range(3):
                start, goal = lot.choice(good), lot.choice(lots)
                for taking in (False, True):
                    told = self.takes_lists(some_moves, places, own, loads, start[::-1], goal, taking=taking)
                    kinds.add((type(told), taking))
                    want = shortest(set(good), start, goal, many, taking)
                    if want is not None:
                        self.assertEqual(told, want, name)
                        self.tuples(told)
                        self.assertIsNone(moves_fault(places, own, loads, start, goal, told, taking=taking))
                    else:
                        self.assertEqual(told, Stuck(reached(good, start, many, taking)), name)
                        self.tuples(told.lots)
                        self.assertIsNone(stuck_fault(places, own, loads, start, goal, told, taking=taking))
        self.assertEqual(kinds, {(kind, taking) for kind in (tuple, Stuck) for taking in (False, True)})

    def test_a_goal_that_tips(self):
        places, own, loads = sample()
        self.assertEqual(some_moves(places, own, loads, (), (0,)), Stuck(((),)))
        self.assertEqual(some_moves(places, own, loads, (), (0,), taking=True), Stuck(((),)))
        self.assertEqual(some_order(places, own, loads), Stuck(((),)))

    def test_equality(self):
        self.told_apart(Stuck(((), (0,))), {"lots": ((),)})
        self.unlike(Stuck(()), ())


class Refusals(Case):

    def test_order(self):
        places, own, loads = sample()
        out = Own(ratio(0), place(5, 1))
        for call, rest in ((some_moves, 0), (moves_fault, 1), (stuck_fault, 1), (some_order, None),
                           (orders_many, None), (laid_before, None), (self.all_lots, None)):
            ends = () if rest is None else (None, None) + (None,) * rest
            self.refuses(BadPlaces, (0, "many"), call, places[:1], out, None, *ends)
            self.refuses(BadOwn, ("hull",), call, places, out, None, *ends)
            for index, word, bad in NOT_LOADS:
                self.refuses(BadLoads, (index, word), call, places, own, bad, *ends)
            if rest is not None:
                for lot in NOT_SEQUENCES[:6] + ((0, 0), (1,), (-1,), (True,), [[0]], ("0",)):
                    self.refuses(BadLot, (lot,), call, places, own, loads, lot, None, *ends[2:])
                    self.refuses(BadLot, (lot,), call, places, own, loads, (0,), lot, *ends[2:])
                self.refuses(LotTips, (1,), call, places, own, loads, (0,), (0,), *ends[2:])
                self.refuses(LotTips, (1,), call, places, own, loads, [0], (), *ends[2:], taking=True)

    def all_lots(self, *args):
        return list(holding_lots(*args))

    def test_the_side_is_that_of_tips_with(self):
        for _, places, own, loads in layings(32, 3, 4):
            for lot in lots_by_size(len(loads)):
                side = tips_with(places, own, loads, lot)
                if side is not None:
                    self.refuses(LotTips, (side,), some_moves, places, own, loads, lot, ())

    def test_taking_is_told_by_its_name(self):
        for call, more in ((some_moves, ()), (moves_fault, ((),)), (stuck_fault, (Stuck(()),))):
            with self.assertRaises(TypeError):
                call(*KEPT, (), (), *more, True)


class JudgingMoves(Case):

    def judge(self, start, goal, moves, **taking):
        return moves_fault(*KEPT, start, goal, moves, **taking)

    def test_moves(self):
        for thing in NOT_SEQUENCES[:6] + (
                (4,), (-1,), (True,), (None,), ("0",), (0, 2, 4), [(0,)], (1.0,), Stuck(((),))):
            self.assertEqual(self.judge((), (0,), thing), (0, "moves"))
            self.assertEqual(self.judge((), (), thing, taking=True), (0, "moves"))

    def test_right_ones(self):
        self.assertIsNone(self.judge((), (), ()))
        self.assertIsNone(self.judge((2, 0), [0, 2], []))
        self.assertIsNone(self.judge((), (0, 2), (0, 2)))
        self.assertIsNone(self.judge((), (0, 2), (2, 0)))
        # They need not be few.
        self.assertIsNone(self.judge((), (0, 2), [0, 0, 2, 2, 0, 2], taking=True))
        self.assertIsNone(self.judge((0, 2), (), (0, 2), taking=True))

    def test_lies_and_tips_and_goal(self):
        self.assertEqual(self.judge((0,), (), (0,)), (0, "lies"))
        self.assertEqual(self.judge((), (0, 2), (0, 2, 2)), (2, "lies"))
        self.assertEqual(self.judge((), (0, 1), (0, 0, 1, 1)), (1, "lies"))
        self.assertEqual(self.judge((), (1,), (1,)), (0, "tips"))
        self.assertEqual(self.judge((), (1,), (0, 0, 1), taking=True), (2, "tips"))
        self.assertEqual(self.judge((), (1,), (0, 1, 1)), (1, "tips"))
        self.assertEqual(self.judge((), (1,), (0, 1, 1), taking=True), (1, "tips"))
        self.assertEqual(self.judge((), (0,), ()), (0, "goal"))
        self.assertEqual(self.judge((), (), (0, 2)), (2, "goal"))
        self.assertEqual(self.judge((), (2,), (0, 2, 2), taking=True), (3, "goal"))

    def test_all_short_rows(self):
        places, own, loads = KEPT
        good = {lot for lot in lots_by_size(4) if holds(places, own, loads, lot)}
        for length in range(4):
            for moves in [()] if not length else permutations(range(4), length):
                lots = [tuple(sorted(moves[:end])) for end in range(length + 1)]
                bad = [number for number, lot in enumerate(lots) if lot not in good]
                want = (bad[0] - 1, "tips") if bad else None
                self.assertEqual(self.judge((), tuple(sorted(moves)), moves), want)


class JudgingStuck(Case):

    def judge(self, lots, start=(), goal=(0, 1), **taking):
        return stuck_fault(*sample_of_two(), start, goal, Stuck(lots), **taking)

    def test_kinds(self):
        for thing in (None, True, 0, "stuck", (), [], ((),), Stuck, ((), (0,))):
            self.assertEqual(stuck_fault(*KEPT, (), (1,), thing), "kind")

    def test_lots(self):
        for thing in NOT_SEQUENCES[:6] + (
                ((), None), ((), ()), ((), (0,), (0,)), ([],), ((), [0]), ((1, 0),), ((0, 0),), ((2,),), ((-1,),),
                ((True,),), (("0",),), (0,), ((), ((0,),))):
            self.assertEqual(self.judge(thing), "lots")
            self.assertEqual(self.judge(thing, start=(0,), goal=(0,)), "lots")

    def test_words(self):
        # Two loads, of which each may lie alone, but not both.
        right = ((), (0,), (1,))
        self.assertIsNone(self.judge(right))
        self.assertIsNone(self.judge(list(right[::-1])))
        self.assertIsNone(self.judge(right, taking=True))
        self.assertEqual(self.judge(()), "start")
        self.assertEqual(self.judge(((0,), (1,))), "start")
        self.assertEqual(self.judge(((0,), (0, 1))), "start")
        self.assertEqual(self.judge(right + ((0, 1),)), "tips")
        self.assertEqual(self.judge(right, goal=(1,)), "goal")
        self.assertEqual(self.judge(((), (1,)), goal=(1,)), "goal")
        self.assertEqual(self.judge(((), (1,))), "leads out")
        self.assertEqual(self.judge(((),)), "leads out")
        self.assertEqual(self.judge(((), (0,)), goal=(1,)), "leads out")
        # Without taking off nothing leads from load 0 to the bare plate.
        self.assertIsNone(self.judge(((0,),), start=(0,), goal=()))
        self.assertEqual(self.judge(((0,),), start=(0,), goal=(1,), taking=True), "leads out")
        # More lots than can be come to.
        self.assertIsNone(self.judge(((0,), (1,)), start=(0,), goal=()))
        self.assertEqual(self.judge(((), (0,), (1,)), start=(0,), goal=()), "goal")

    def test_more_or_fewer_lots(self):
        for _, places, own, loads in layings(33, 5, 4):
            told = some_order(places, own, loads)
            every = tuple(range(len(loads)))
            if isinstance(told, Stuck):
                for number in range(1, len(told.lots)):
                    fewer = Stuck(told.lots[:number] + told.lots[number + 1:])
                    self.assertEqual(stuck_fault(places, own, loads, (), every, fewer), "leads out")
                good = [lot for lot in lots_by_size(len(loads)) if holds(places, own, loads, lot)]
                word = "goal" if every in good else None
                self.assertEqual(stuck_fault(places, own, loads, (), every, Stuck(good)), word)


def sample_of_two():
    """Two loads far out to the right, of which the plate bears each one, but not both."""
    return balance((4, 5), (4, 5))


class Orders(Case):

    def test_samples(self):
        self.assertEqual(some_order(*balance()), ())
        self.assertEqual(orders_many(*balance()), 1)
        self.assertEqual(laid_before(*balance()), ())
        self.assertEqual(list(holding_lots(*balance())), [()])
        two = balance((4, -1), (8, 5))
        self.assertEqual(some_order(*two), (0, 1))
        self.assertEqual((orders_many(*two), laid_before(*two)), (1, ((0, 1),)))
        self.assertEqual(list(holding_lots(*two)), [(), (0,), (0, 1)])
        self.assertEqual(orders_many(*sample_of_two()), 0)
        self.refuses(NoOrder, (((), (0,), (1,)),), laid_before, *sample_of_two())
        inside = balance(*[(k, 2) for k in range(8)])
        self.assertEqual((orders_many(*inside), laid_before(*inside)), (factorial(8), ()))
        self.assertEqual(some_order(*inside), tuple(range(8)))
        self.assertEqual(len(list(holding_lots(*inside))), 256)

    def test_against_all_orders(self):
        seen = set()
        for name, places, own, loads in layings(34, 10, 4):
            many = len(loads)
            good = {lot for lot in lots_by_size(many) if holds(places, own, loads, lot)}
            rows = [row for row in permutations(range(many))
                    if all(tuple(sorted(row[:end])) in good for end in range(many + 1))]
            self.assertEqual(orders_many(places, own, loads), len(rows), name)
            self.assertEqual(list(holding_lots(places, own, loads)),
                             [lot for lot in lots_by_size(many) if lot in good])
            self.assertEqual(any_order(places, own, loads) is None, len(rows) == factorial(many))
            told = some_order(places, own, loads)
            self.assertEqual(isinstance(told, Stuck), not rows)
            seen.add((not rows, len(rows) == factorial(many)))
            if rows:
                self.assertEqual(told, rows[0])
                pairs = tuple((j, k) for j in range(many) for k in range(many) if j != k
                              and all(row.index(j) < row.index(k) for row in rows))
                self.assertEqual(self.takes_lists(laid_before, places, own, loads), pairs)
                self.tuples(pairs)
            else:
                self.assertEqual(told, some_moves(places, own, loads, (), tuple(range(many))))
                self.refuses(NoOrder, (told.lots,), laid_before, places, own, loads)
        self.assertEqual(seen, {(True, False), (False, True), (False, False)})

    def test_orders_that_must_be_kept(self):
        places, own, loads = KEPT
        rows = [row for row in permutations(range(4))
                if all(holds(places, own, loads, tuple(sorted(row[:end]))) for end in range(5))]
        self.assertTrue(0 < len(rows) < 24)
        self.assertEqual(orders_many(*KEPT), len(rows))
        self.assertEqual(laid_before(*KEPT), tuple(
            (j, k) for j in range(4) for k in range(4) if j != k
            and all(row.index(j) < row.index(k) for row in rows)))
        chained = balance((10, 5), (4, -1), (1, 2), (20, -2))
        self.assertEqual(laid_before(*chained), ((0, 3), (1, 0), (1, 3)))

    def test_lists(self):
        for call in (some_order, orders_many, laid_before):
            self.takes_lists(call, *KEPT)
        self.takes_lists(lambda *args: tuple(holding_lots(*args)), *KEPT)
        self.takes_lists(moves_fault, *KEPT, (), (0, 2), (0, 2))
        self.takes_lists(stuck_fault, *KEPT, (), (1,), Stuck(((),)))

    def test_eight_loads_and_great_numbers(self):
        places = LAYOUTS["great"]
        own = Own(great(12, 5), places[3])
        loads = [(great(12, k), (great(12, 30 * k), great(12, 400 - 7 * k))) for k in range(8)]
        lots = list(holding_lots(places, own, loads))
        lot = random.Random(5)
        for one in lot.sample(lots_by_size(8), 20):
            self.assertEqual(one in lots, holds(places, own, loads, one))
        self.assertEqual(lots, sorted(lots, key=lambda one: (len(one), one)))
        told = some_order(places, own, loads)
        every = tuple(range(8))
        if isinstance(told, Stuck):
            self.assertIsNone(stuck_fault(places, own, loads, (), every, told))
        else:
            self.assertIsNone(moves_fault(places, own, loads, (), every, told))


if __name__ == "__main__":
    unittest.main()
