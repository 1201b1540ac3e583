"""Points 2.8 to 2.13: ranges, skins, pieces, knots and pushes for a showing."""

import unittest
from fractions import Fraction
from itertools import combinations

from tests.helper import (
    Case, LAYOUTS, NOT_PLACES, NOT_RATIOS, borne, corners, deep_list, fits, fraction, height,
    lean_by_solving, place, plain, plains, ratio, scale, shown, solve, some_loads,
)
from wherelaid.along import mirrored, mirrored_loads, shifted, shifted_loads, turned, turned_loads
from wherelaid.errors import BadLoads, BadPlace, BadShowing, BeyondSide, OutOfRange
from wherelaid.hulls import Side, side_beyond, sides_of
from wherelaid.leverways import cut_lever, lengthened, set_between
from wherelaid.loads import centre_of
from wherelaid.pushes import lean_pushes, pushes_fault, showing_of
from wherelaid.scales import Plain, plain_of
from wherelaid.skins import (
    Piece, Range, Tips, height_at, knots_along, lower_at, pushes_for, range_fault, range_of,
    skin_pieces, upper_at,
)

LOADS = ((ratio(3), place(1, 1)),)
BEYOND = ((ratio(3), place(9, 1)),)
NOT_LOADS = (
    (None, 0, "many"), ([LOADS[0]] * 9, 0, "many"), ([LOADS[0], ()], 1, "load"),
    ([(ratio(-1), None)], 0, "weight"), ([LOADS[0], (ratio(1), None)], 1, "place"),
)


def bumpy():
    """A Plain whose skins have several pieces each."""
    return Plain(LAYOUTS["six"], [ratio(k) for k in ("1", "2", "3", "1", "5", "1/2")])


def cases():
    for name, one in plains():
        for loads in some_loads(one.places):
            yield one, loads


def points_in(places):
    """Small places within: legs, means of two and of all."""
    yield from places
    for one, other in combinations(places, 2):
        mean = tuple(ratio((fraction(a) * 2 + fraction(b)) / 3) for a, b in zip(one, other))
        if max(abs(part) for size in mean for part in size) <= 10 ** 12:
            yield mean


def skins_by_solving(one, there):
    showings = [sum(fraction(factor) * part for factor, part in zip(one.factors, row))
                for row in lean_by_solving(one.places, ((ratio(1), there),))]
    return min(showings), max(showings)


class Height(Case):

    def test_height(self):
        plane = (ratio("1/2"), ratio(-3), ratio("2/3"))
        self.assertEqual(height_at(plane, place(0, 0)), ratio("1/2"))
        self.assertEqual(height_at(plane, place(1, 0)), ratio("-5/2"))
        self.assertEqual(height_at(plane, [ratio(0), ratio(6)]), ratio("9/2"))
        self.assertEqual(height_at(plane, place("1/3", 10 ** 40)),
                         ratio(Fraction(1, 2) - 1 + Fraction(2 * 10 ** 40, 3)))


class Ranges(Case):

    def judge(self, one, loads, told):
        """Judge a Range by the words of the document: with planes it is seen that no more can come."""
        self.assertIs(type(told), Range)
        total = borne(loads)
        for pushes, plane, showing, sign in (
                (told.low_pushes, told.low_plane, told.least, 1),
                (told.high_pushes, told.high_plane, told.greatest, -1)):
            self.tuples((pushes, plane, showing))
            self.assertTrue(fits(one.places, loads, pushes))
            self.assertIn(pushes, lean_pushes(one.places, loads))
            self.assertEqual(shown(one, pushes), fraction(showing))
            self.assertEqual(len(plane), 3)
            for there, factor in zip(one.places, one.factors):
                self.assertGreaterEqual(sign * (fraction(factor) - height(plane, there)), 0)
            self.assertEqual(sum(fraction(part) * size for part, size in zip(plane, total)),
                             fraction(showing))

    def test_by_the_document(self):
        for one, loads in cases():
            told = range_of(one, deep_list(loads))
            if lean_by_solving(one.places, loads):
                self.judge(one, loads, told)
            else:
                self.assertEqual(told, Tips(self.first_side(one.places, loads)))
            self.assertEqual(range_of(one, loads), told)

    def first_side(self, places, loads):
        total = borne(loads)
        for side in sides_of(places):
            sums = sum(number * size for number, size in zip(side.normal, total[1:]))
            if sums < fraction(side.least) * total[0]:
                return side

    def test_samples(self):
        told = range_of(bumpy(), LOADS)
        self.assertEqual((told.least, told.greatest), (ratio("27/8"), ratio(9)))
        square = Plain(corners(), [ratio(1), ratio(2), ratio(4), ratio(2)])
        told = range_of(square, [(ratio(4), place(2, 1))])
        self.assertEqual((told.least, told.greatest), (ratio(8), ratio(10)))
        self.assertEqual(told.low_pushes, (ratio(0), ratio(2), ratio(0), ratio(2)))
        self.assertEqual(told.high_pushes, (ratio(2), ratio(0), ratio(2), ratio(0)))

    def test_total_0(self):
        for loads in ((), [(ratio(0), place(99, 0))]):
            for _, one in plains():
                told = range_of(one, loads)
                self.assertEqual((told.least, told.greatest), (ratio(0), ratio(0)))
                self.assertEqual(told.low_pushes, (ratio(0),) * len(one))
                self.assertEqual(told.high_pushes, (ratio(0),) * len(one))
                self.judge(one, loads, told)

    def test_the_first_side(self):
        for far, index in ((place(9, 9), 1), (place(9, -9), 0), (place(-9, -9), 0), (place(-9, 1), 3)):
            told = range_of(plain(), [(ratio(1), far)])
            self.assertEqual(told, Tips(sides_of(corners())[index]))

    def test_wrong_loads(self):
        for loads, index, what in NOT_LOADS:
            self.refuses(BadLoads, (index, what), range_of, plain(), loads)
            self.refuses(BadLoads, (index, what), range_fault, plain(), loads, None)
            self.refuses(BadLoads, (index, what), pushes_for, plain(), loads, None)

    def test_the_same_with_other_levers(self):
        one = scale()
        for loads in some_loads(one.places):
            want = range_of(one, loads)
            for other in (plain_of(one), lengthened(one, 1, ratio("3/7")), cut_lever(one, 1),
                          cut_lever(one, 3), set_between(one, 2, ratio(5), ratio("2/9"))):
                self.assertEqual(range_of(other, loads), want)
                self.assertIsNone(range_fault(other, loads, want))
                self.assertEqual(skin_pieces(other), skin_pieces(one))
                self.assertEqual(skin_pieces(other, upper=True), skin_pieces(one, upper=True))

    def test_the_same_led_along(self):
        for loads in some_loads(bumpy().places):
            want = range_of(bumpy(), loads)
            for one, rows in ((turned(bumpy()), turned_loads(loads)),
                              (mirrored(bumpy()), mirrored_loads(loads)),
                              (shifted(bumpy(), place(3, "-7/2")), shifted_loads(loads, place(3, "-7/2")))):
                told = range_of(one, rows)
                if isinstance(want, Tips):
                    self.assertIs(type(told), Tips)
                else:
                    self.assertEqual((told.least, told.greatest), (want.least, want.greatest))

    def test_equality_and_kept_things(self):
        row = [ratio(1), ratio(2), (), [], None, "plane"]
        made = Range(*row)
        names = ("least", "greatest", "low_pushes", "high_pushes", "low_plane", "high_plane")
        self.assertEqual(tuple(vars(made)), names)
        for index, name in enumerate(names):
            self.assertIs(getattr(made, name), row[index])
            self.unlike(made, Range(*row[:index], "other", *row[index + 1:]))
        self.alike(made, Range(*row))
        side = sides_of(corners())[0]
        self.assertIs(Tips(side).side, side)
        self.alike(Tips(side), Tips(sides_of(corners())[0]))
        self.unlike(Tips(side), Tips(sides_of(corners())[1]))
        for other in (Tips(side), side, None, row, 0):
            self.unlike(made, other)
        for other in (side, None, "tips", Piece((0,), ())):
            self.unlike(Tips(side), other)
        piece = Piece((0, 1), (ratio(1),) * 3)
        self.alike(piece, Piece((0, 1), (ratio(1),) * 3))
        self.unlike(piece, Piece((0, 2), (ratio(1),) * 3))
        self.unlike(piece, Piece((0, 1), None))
        self.unlike(piece, Tips(side))


class Judging(Case):

    def changed(self, told, **parts):
        row = dict(vars(told))
        row.update(parts)
        return Range(**row)

    def test_kinds(self):
        for loads in (LOADS, BEYOND, ()):
            for thing in (None, 0, True, "kind", (), [], Range, sides_of(corners())[0], Piece((), ())):
                self.assertEqual(range_fault(plain(), loads, thing), "kind")

    def test_tips(self):
        side = sides_of(corners())[1]
        for loads in ((), LOADS, [(ratio(0), place(99, 0))], [(ratio(2), place(4, 1))]):
            for thing in (side, None, sides_of(corners())[0]):
                self.assertEqual(range_fault(plain(), loads, Tips(thing)), "tips")
        self.assertIsNone(range_fault(plain(), BEYOND, Tips(side)))
        whole = Side((-1, 0), ratio(-4), (1, 2))
        self.assertIsNone(range_fault(plain(), BEYOND, Tips(whole)))
        for thing in (
                None, True, (), "side", *[other for other in sides_of(corners()) if other != side],
                Side((-1, False), ratio(-4), (1, 2)), Side((-1, 0), ratio(-4), (True, 2)),
                Side((-1, 0), ratio(-4), (1, 2.0)), Side((-1.0, 0), ratio(-4), (1, 2)),
                Side([-1, 0], ratio(-4), (1, 2)), Side((-1, 0), ratio(-4), [1, 2]),
                Side((-2, 0), ratio(-8), (1, 2)), Side((-1, 0), ratio(-3), (1, 2)),
                Side((-1, 0), (-4, True), (1, 2)), Side((-1, 0), -4, (1, 2)), Side(None, None, None),
                Side(None, ratio(-4), (1, 2)), Side((-1, 0), ratio(-4), None), Side(0, ratio(-4), 0),
                Side((-1, 0), ratio(-4), (1,)), Side((1, 0), ratio(-4), (1, 2))):
            self.assertEqual(range_fault(plain(), BEYOND, Tips(thing)), "side")

    def test_any_side_that_the_centre_is_beyond(self):
        far = [(ratio(1), place(9, 9))]
        words = [range_fault(plain(), far, Tips(side)) for side in sides_of(corners())]
        self.assertEqual(words, ["side", None, None, "side"])

    def test_ranges_of_loads_that_tip(self):
        for told in (range_of(plain(), LOADS), Range(None, None, None, None, None, None)):
            self.assertEqual(range_fault(plain(), BEYOND, told), "tips")

    def test_pushes(self):
        one = bumpy()
        told = range_of(one, LOADS)
        wrong = (None, 0, (), told.low_pushes[:5], told.low_pushes + (ratio(0),), (ratio(0),) * 6,
                 told.low_pushes[1:] + told.low_pushes[:1], (None,) * 6,
                 tuple((part[0], True) if part == (0, 1) else part for part in told.low_pushes))
        for pushes in wrong + (told.high_pushes,):
            self.assertEqual(range_fault(one, LOADS, self.changed(told, low_pushes=pushes)), "low pushes")
        for pushes in wrong + (told.low_pushes,):
            self.assertEqual(range_fault(one, LOADS, self.changed(told, high_pushes=pushes)), "high pushes")
        for size in (ratio(1), None, True, 3, "3", [3, 1], told.least + (1,)):
            self.assertEqual(range_fault(one, LOADS, self.changed(told, least=size)), "low pushes")
            self.assertEqual(range_fault(one, LOADS, self.changed(told, greatest=size)), "high pushes")

    def test_pushes_of_truths(self):
        # True is equal to 1, but no number.
        square = Plain(corners(), (ratio(1),) * 4)
        told = range_of(square, [(ratio(1), place(0, 0))])
        self.assertEqual(told.least, (1, 1))
        for size in ((True, 1), (1, True), (1.0, 1)):
            self.assertEqual(range_fault(square, [(ratio(1), place(0, 0))],
                                         self.changed(told, least=size)), "low pushes")
        row = ((True, 1),) + told.low_pushes[1:]
        self.assertEqual(range_fault(square, [(ratio(1), place(0, 0))],
                                     self.changed(told, high_pushes=row)), "high pushes")
        plane = ((True, 1),) + told.low_plane[1:]
        self.assertEqual(told.low_plane[0], (1, 1))
        self.assertEqual(range_fault(square, [(ratio(1), place(0, 0))],
                                     self.changed(told, low_plane=plane)), "low plane")

    def test_pushes_that_are_not_lean(self):
        square = Plain(corners(), (ratio(1),) * 4)
        loads = [(ratio(4), place(2, 1))]
        told = range_of(square, loads)
        even = (ratio(1),) * 4
        self.assertIsNone(pushes_fault(corners(), loads, even))
        self.assertEqual(range_fault(square, loads, self.changed(told, low_pushes=even)), "low pushes")
        self.assertEqual(range_fault(square, loads, self.changed(told, high_pushes=even)), "high pushes")
        row = Plain(LAYOUTS["three in a row"], (ratio(1),) * 3)
        loads = [(ratio(3), place(2, 1))]
        told = range_of(row, loads)
        three = (ratio("3/2"), ratio(1), ratio("1/2"))
        self.assertIsNone(pushes_fault(row.places, loads, three))
        self.assertEqual(range_fault(row, loads, self.changed(told, low_pushes=three)), "low pushes")

    def test_other_lean_pushes_are_right(self):
        square = Plain(corners(), (ratio(1),) * 4)
        loads = [(ratio(4), place(2, 1))]
        told = range_of(square, loads)
        for row in lean_pushes(corners(), loads):
            self.assertIsNone(range_fault(square, loads, self.changed(told, low_pushes=row, high_pushes=row)))

    def test_planes(self):
        one = bumpy()
        told = range_of(one, LOADS)
        for part, other, word, by in (("low_plane", "high_plane", "low plane", -1),
                                      ("high_plane", "low_plane", "high plane", 1)):
            plane = getattr(told, part)
            moved = (ratio(fraction(plane[0]) + by),) + plane[1:]
            for thing in (None, 0, (), plane[:2], plane + (ratio(0),), list(plane), (1, 2, 3), moved,
                          (ratio(fraction(plane[0]) - by),) + plane[1:], getattr(told, other),
                          ((plane[0][0], True),) + plane[1:] if plane[0][1] == 1 else None):
                self.assertEqual(range_fault(one, LOADS, self.changed(told, **{part: thing})), word)

    def test_planes_that_touch_and_pass(self):
        # The right height under the loads, but one factor on the wrong side.
        square = Plain(corners(), [ratio(1), ratio(2), ratio(3), ratio(2)])
        loads = [(ratio(2), place(0, 0))]
        told = range_of(square, loads)
        self.assertIsNone(range_fault(square, loads, told))
        for slope, low, high in ((0, None, "high plane"), (1, "low plane", None)):
            plane = (ratio(1), ratio(slope), ratio(slope))
            self.assertEqual(range_fault(square, loads, self.changed(told, low_plane=plane)), low)
            self.assertEqual(range_fault(square, loads, self.changed(told, high_plane=plane)), high)

    def test_first_word(self):
        one = bumpy()
        told = range_of(one, LOADS)
        words = (("low_pushes", "low pushes"), ("high_pushes", "high pushes"),
                 ("low_plane", "low plane"), ("high_plane", "high plane"))
        for (part, word), (later, _) in combinations(words, 2):
            self.assertEqual(range_fault(one, LOADS, self.changed(told, **{part: None, later: None})), word)

    def test_all_samples(self):
        for one, loads in cases():
            told = range_of(one, loads)
            if isinstance(told, Tips):
                continue
            self.assertIsNone(range_fault(one, loads, told))
            low = ratio(fraction(told.least) - 1)
            high = ratio(fraction(told.greatest) + 1)
            self.assertEqual(range_fault(one, loads, self.changed(told, least=low)), "low pushes")
            self.assertEqual(range_fault(one, loads, self.changed(told, greatest=high)), "high pushes")
            down = tuple(ratio(fraction(part) - 1) for part in told.low_plane[:1]) + told.low_plane[1:]
            if borne(loads)[0]:
                self.assertEqual(range_fault(one, loads, self.changed(told, low_plane=down)), "low plane")


class Skins(Case):

    def test_by_solving(self):
        for _, one in plains():
            for there in list(points_in(one.places))[::2]:
                want = skins_by_solving(one, there)
                self.assertEqual(fraction(lower_at(one, there)), want[0])
                self.assertEqual(fraction(upper_at(one, list(there))), want[1])

    def test_total_times_the_skin(self):
        for one, loads in cases():
            told = range_of(one, loads)
            total = borne(loads)[0]
            if isinstance(told, Range) and total:
                centre = centre_of(loads)
                if max(abs(part) for size in centre for part in size) <= 10 ** 12:
                    self.assertEqual(fraction(told.least), total * fraction(lower_at(one, centre)))
                    self.assertEqual(fraction(told.greatest), total * fraction(upper_at(one, centre)))

    def test_errors(self):
        for call in (lower_at, upper_at):
            for thing in NOT_PLACES:
                self.refuses(BadPlace, (thing,), call, plain(), thing)
            for there in (place(9, 9), place(-1, 1), place(5, 1)):
                self.refuses(BeyondSide, (side_beyond(corners(), there),), call, plain(), there)


class Pieces(Case):

    def by_solving(self, one, upper):
        """The lots and planes of all pieces, by trying all twos or threes of legs."""
        row = [fraction(b) - fraction(a) for a, b in zip(one.places[0], one.places[1])]
        flat = all((fraction(there[0]) - fraction(one.places[0][0])) * row[1]
                   == (fraction(there[1]) - fraction(one.places[0][1])) * row[0] for there in one.places)
        found = {}
        for lot in combinations(range(len(one)), 2 if flat else 3):
            columns = [[Fraction(1) for _ in lot]]
            columns += [[fraction(one.places[leg][axis]) for leg in lot] for axis in (0, 1)]
            right = [fraction(one.factors[leg]) for leg in lot]
            if flat:
                # One more equation: (b, c) is a multiple of the row's direction.
                columns = [column + [part] for column, part in zip(columns, (0, row[1], -row[0]))]
                right.append(Fraction(0))
            plane = solve(columns, right)
            if plane is None:
                continue
            plane = tuple(ratio(part) for part in plane)
            gaps = [fraction(factor) - height(plane, there)
                    for factor, there in zip(one.factors, one.places)]
            if (max(gaps) <= 0) if upper else (min(gaps) >= 0):
                found[tuple(leg for leg, gap in enumerate(gaps) if gap == 0)] = plane
        return [Piece(legs, found[legs]) for legs in sorted(found)]

    def test_by_the_document(self):
        for _, one in plains():
            lower = skin_pieces(one)
            self.assertIs(type(lower), tuple)
            self.assertEqual(list(lower), self.by_solving(one, False))
            self.assertEqual(list(skin_pieces(one, upper=False)), self.by_solving(one, False))
            self.assertEqual(list(skin_pieces(one, upper=True)), self.by_solving(one, True))
            for piece in lower:
                self.tuples((piece.legs, piece.plane))

    def test_every_place_lies_over_a_piece(self):
        for name, one in plains():
            if not name.endswith((" 1", " 3")):
                continue
            for upper, call in ((False, lower_at), (True, upper_at)):
                pieces = skin_pieces(one, upper=upper)
                for there in points_in(one.places):
                    over = [piece for piece in pieces
                            if lean_by_solving([one.places[leg] for leg in piece.legs],
                                               ((ratio(1), there),))]
                    self.assertTrue(over)
                    for piece in over:
                        self.assertEqual(height_at(piece.plane, there), call(one, there))

    def test_samples(self):
        square = Plain(corners(), [ratio(1), ratio(2), ratio(4), ratio(2)])
        self.assertEqual(list(skin_pieces(square)), [
            Piece((0, 1, 3), (ratio(1), ratio("1/4"), ratio("1/2"))),
            Piece((1, 2, 3), (ratio(0), ratio("1/2"), ratio(1)))])
        self.assertEqual(list(skin_pieces(square, upper=True)), [
            Piece((0, 1, 2), (ratio(1), ratio("1/4"), ratio(1))),
            Piece((0, 2, 3), (ratio(1), ratio("1/2"), ratio("1/2")))])
        row = Plain(LAYOUTS["three in a row"], [ratio(1), ratio(1), ratio(6)])
        self.assertEqual(list(skin_pieces(row)), [
            Piece((0, 1), (ratio(1), ratio(0), ratio(0))),
            Piece((0, 2), (ratio("-3/2"), ratio(1), ratio("1/2")))])
        self.assertEqual(list(skin_pieces(row, upper=True)),
                         [Piece((1, 2), (ratio(1), ratio("2/3"), ratio("1/3")))])
        two = Plain(LAYOUTS["two"], [ratio(2), ratio(2)])
        self.assertEqual(list(skin_pieces(two)), [Piece((0, 1), (ratio(2), ratio(0), ratio(0)))])
        flat = Plain(LAYOUTS["grid"], [ratio(3)] * 6)
        self.assertEqual(list(skin_pieces(flat)), [Piece(tuple(range(6)), (ratio(3), ratio(0), ratio(0)))])


class Knots(Case):

    def judge(self, one, start, goal, upper, knots):
        self.tuples(knots)
        parts = [fraction(part) for part, _ in knots]
        heights = [fraction(size) for _, size in knots]
        self.assertEqual(parts, sorted(set(parts)))
        self.assertEqual((parts[0], parts[-1]), (0, 1))

        def skin(part):
            there = tuple(ratio(fraction(a) + part * (fraction(b) - fraction(a)))
                          for a, b in zip(start, goal))
            return skins_by_solving(one, there)[1 if upper else 0]

        for part, size in zip(parts, heights):
            self.assertEqual(skin(part), size)
        for at in range(1, len(parts)):
            # A skin bends one way only, so that it is straight where it is in the middle.
            middle = skin((parts[at - 1] + parts[at]) / 2)
            self.assertEqual(middle, (heights[at - 1] + heights[at]) / 2)
        for at in range(1, len(parts) - 1):
            slopes = [(heights[k + 1] - heights[k]) / (parts[k + 1] - parts[k]) for k in (at - 1, at)]
            self.assertTrue(slopes[0] > slopes[1] if upper else slopes[0] < slopes[1])

    def test_by_the_document(self):
        for name, one in plains():
            if name.startswith(("great", "far")) or not name.endswith((" 2", " 3")):
                continue
            points = list(points_in(one.places))
            for start, goal in list(zip(points, points[2:] + points[:2]))[::2]:
                for upper in (False, True):
                    self.judge(one, start, goal, upper, knots_along(one, start, goal, upper=upper))

    def test_samples(self):
        one = bumpy()
        start, goal = place(0, 0), place(4, 2)
        self.assertEqual(knots_along(one, start, goal, upper=True), (
            (ratio(0), ratio(1)), (ratio("1/2"), ratio(5)), (ratio(1), ratio(3))))
        square = Plain(corners(), [ratio(1), ratio(2), ratio(4), ratio(2)])
        want = ((ratio(0), ratio(1)), (ratio("1/2"), ratio(2)), (ratio(1), ratio(4)))
        self.assertEqual(knots_along(square, start, goal), want)
        self.assertEqual(knots_along(square, list(start), list(goal), upper=False), want)
        self.assertEqual(knots_along(square, goal, start), (
            (ratio(0), ratio(4)), (ratio("1/2"), ratio(2)), (ratio(1), ratio(1))))
        # Over the crease that the upper skin has there, and along it, it does not bend.
        self.assertEqual(knots_along(square, start, goal, upper=True),
                         ((ratio(0), ratio(1)), (ratio(1), ratio(4))))

    def test_equal_ends(self):
        for _, one in plains():
            for upper, call in ((False, lower_at), (True, upper_at)):
                there = one.places[-1]
                height_there = call(one, there)
                self.assertEqual(knots_along(one, there, list(there), upper=upper),
                                 ((ratio(0), height_there), (ratio(1), height_there)))

    def test_a_bend_at_an_end(self):
        # The way begins or ends just where the skin bends: no knot but 0 and 1.
        square = Plain(corners(), [ratio(1), ratio(2), ratio(4), ratio(2)])
        for start, goal in ((place(2, 1), place(4, 2)), (place(0, 0), place(2, 1))):
            self.assertEqual([part for part, _ in knots_along(square, start, goal)], [ratio(0), ratio(1)])

    def test_errors_in_order(self):
        good, beyond, other = place(1, 1), place(9, 1), place(1, 9)
        sides = [side_beyond(corners(), there) for there in (beyond, other)]
        for upper in (False, True):
            for thing in NOT_PLACES:
                for more in (good, beyond, None):
                    self.refuses(BadPlace, (thing,), knots_along, plain(), thing, more, upper=upper)
                for first in (good, beyond):
                    self.refuses(BadPlace, (thing,), knots_along, plain(), first, thing, upper=upper)
            self.refuses(BeyondSide, (sides[0],), knots_along, plain(), beyond, good, upper=upper)
            self.refuses(BeyondSide, (sides[0],), knots_along, plain(), beyond, other, upper=upper)
            self.refuses(BeyondSide, (sides[1],), knots_along, plain(), good, other, upper=upper)
            self.refuses(BeyondSide, (sides[1],), knots_along, plain(), other, beyond, upper=upper)


class PushesFor(Case):

    def test_all_samples(self):
        for one, loads in list(cases())[::2]:
            told = range_of(one, loads)
            if isinstance(told, Tips):
                self.refuses(BeyondSide, (told.side,), pushes_for, one, loads, ratio(1))
                continue
            least, greatest = fraction(told.least), fraction(told.greatest)
            for part, rows in ((0, loads), (1, loads), (Fraction(5, 7), deep_list(loads))):
                showing = ratio(least + part * (greatest - least))
                pushes = pushes_for(one, rows, showing)
                self.tuples(pushes)
                self.assertTrue(fits(one.places, loads, pushes))
                self.assertEqual(showing_of(one, pushes), showing)
            for by in (least - Fraction(1, 10 ** 9), greatest + Fraction(1, 10 ** 9)):
                self.refuses(OutOfRange, (told.least, told.greatest), pushes_for, one, loads, ratio(by))

    def test_total_0(self):
        self.assertEqual(pushes_for(plain(), [], ratio(0)), (ratio(0),) * 4)
        for size in (ratio(1), ratio("-1/2")):
            self.refuses(OutOfRange, (ratio(0), ratio(0)), pushes_for, plain(), [], size)

    def test_errors_in_order(self):
        side = side_beyond(corners(), place(9, 1))
        for thing in NOT_RATIOS:
            self.refuses(BadShowing, (thing,), pushes_for, plain(), LOADS, thing)
            self.refuses(BadShowing, (thing,), pushes_for, plain(), BEYOND, thing)
        self.refuses(BeyondSide, (side,), pushes_for, plain(), BEYOND, ratio(-5))

    def test_nothing_is_changed(self):
        loads = deep_list(LOADS)
        made = [range_of(bumpy(), loads), pushes_for(bumpy(), loads, ratio(4))]
        self.assertEqual(loads, deep_list(LOADS))
        loads[0][0] = ratio(9)
        loads[0][1][0] = None
        self.assertEqual(made, [range_of(bumpy(), LOADS), pushes_for(bumpy(), LOADS, ratio(4))])


if __name__ == "__main__":
    unittest.main()
