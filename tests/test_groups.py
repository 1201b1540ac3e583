"""Points 8.1 and 8.2: groups of legs, their showings, and the one load that pushes bear."""

import unittest
from fractions import Fraction

from tests.grouped import (
    ONE, SQUARE, ZERO, great_groups, load_of, shows, some_groups, some_pushes, some_showings, square,
)
from tests.helper import Case, NOT_RATIOS, NOT_SEQUENCES, NOT_WHOLE, corners, fraction, plain, ratio, scale, scales
from wherelaid.errors import BadGroups, BadPushes, BadShowings, NoLeg
from wherelaid.groups import Groups, borne_load, check_showings, showings_of
from wherelaid.pushes import showing_of
from wherelaid.scales import plain_of


class Parting(Case):

    def test_attributes(self):
        whole = scale()
        one = Groups(whole, [[3, 0], (4,), [2, 1]])
        self.assertEqual(one.rows, ((0, 3), (4,), (1, 2)))
        self.tuples(one.rows)
        self.assertEqual(one.scale, whole)
        self.assertEqual((one.places, one.factors), (whole.places, whole.factors))
        self.assertEqual(len(one), 3)
        self.assertEqual(list(one), [(0, 3), (4,), (1, 2)])
        self.assertEqual([row for row in one], list(one.rows))
        self.assertEqual([one.group_of(leg) for leg in range(5)], [0, 2, 2, 0, 1])
        other = square(1, 2, 3, 4)
        self.assertEqual((len(other), other.factors), (2, tuple(ratio(k) for k in (1, 2, 3, 4))))
        two = Groups(plain_of(dict(scales())["two legs"]), ((1,), (0,)))
        self.assertEqual((list(two), two.group_of(0), two.group_of(1)), ([(1,), (0,)], 1, 0))

    def test_lists_are_not_kept(self):
        rows = [[3, 1], [0, 2]]
        one = Groups(plain(), rows)
        self.assertEqual(rows, [[3, 1], [0, 2]])
        rows[0].append(5)
        rows.clear()
        self.assertEqual(one.rows, ((1, 3), (0, 2)))

    def refuse(self, told, rows):
        self.refuses(BadGroups, told, Groups, plain(), rows)

    def test_refusals(self):
        for thing in NOT_SEQUENCES + ((), ((0, 1, 2, 3),), ((0,), (1,), (2,), (3,)), [[0, 1, 2, 3]]):
            self.refuse((0, "many"), thing)
        self.refuse((0, "many"), square(1, 2, 3, 4))
        for thing in NOT_SEQUENCES + ((), []):
            self.refuse((1, "group"), ((0, 1), thing))
            self.refuse((0, "group"), (thing, None))
            self.refuse((2, "group"), ([0, 1], [2], thing))
        for leg in NOT_WHOLE + (4, -1):
            self.refuse((1, "leg"), ((0, 1), (2, leg, 2)))
            self.refuse((0, "leg"), ([leg], None))
        self.refuse((1, "twice"), ((0, 1), (2, 0)))
        self.refuse((0, "twice"), ((0, 0, 9), ()))
        self.refuse((1, "twice"), ((0, 1), (1, 9), None))
        self.refuse((2, "twice"), ((0, 1), (2,), (3, 2)))
        self.refuse((0, "left"), ((0, 1), (2,)))
        self.refuse((0, "left"), ((3,), (2,), (1,)))
        self.refuse((1, "leg"), ((3,), (True,)))

    def test_no_such_leg(self):
        one = square(1, 2, 3, 4)
        for leg in NOT_WHOLE + (4, -1):
            self.refuses(NoLeg, (leg,), one.group_of, leg)

    def test_equality(self):
        one = square(1, 2, 3, 4)
        self.told_apart(one, {"scale": square(1, 2, 3, 5).scale, "rows": ((0, 2), (1, 3))})
        self.alike(one, square(1, 2, 3, 4, rows=[[1, 0], [3, 2]]))
        # In whatever order the groups were passed, they keep it.
        self.unlike(one, square(1, 2, 3, 4, rows=((2, 3), (0, 1))))
        self.unlike(one, one.scale)
        self.unlike(one, one.rows)


class Showings(Case):

    def test_right_ones(self):
        two, three = square(1, 2, 3, 4), square(1, 2, 3, 4, rows=((0,), (1, 3), (2,)))
        for one in (two, three):
            for showings in some_showings(one, 1):
                self.assertEqual(self.takes_lists(check_showings, one, showings), showings)
                self.tuples(check_showings(one, list(showings)))

    def test_refusals(self):
        one = square(1, 2, 3, 4)
        for thing in NOT_SEQUENCES + ((), (ONE,), (ONE,) * 3, [ONE] * 4):
            self.refuses(BadShowings, (0, "many"), check_showings, one, thing)
        for size in NOT_RATIOS + (ratio(-1), ratio("-1/9")):
            self.refuses(BadShowings, (1, "showing"), check_showings, one, (ONE, size))
            self.refuses(BadShowings, (0, "showing"), check_showings, one, [size, None])

    def test_samples(self):
        one = square(1, 2, 3, 4)
        self.assertEqual(showings_of(one, (ONE, ratio("1/2"), ZERO, ratio(2))), (ratio(2), ratio(8)))
        self.assertEqual(showings_of(one, (ZERO,) * 4), (ZERO, ZERO))
        turned = square(1, 2, 3, 4, rows=((3, 2), (1, 0)))
        self.assertEqual(showings_of(turned, [ONE] * 4), (ratio(7), ratio(3)))
        self.assertEqual(borne_load(one, (ONE, ONE, ZERO, ratio(2))), (ratio(4), (ONE, ONE)))
        self.assertEqual(borne_load(one, (ZERO, ZERO, ratio("1/3"), ZERO)), (ratio("1/3"), SQUARE[2]))
        self.assertIsNone(borne_load(one, (ZERO,) * 4))

    def test_by_the_words(self):
        for _, one in [*some_groups(2), ("great", great_groups())]:
            for pushes in some_pushes(one, 3):
                told = self.takes_lists(showings_of, one, pushes)
                self.tuples(told)
                self.assertEqual([fraction(part) for part in told], shows(one, pushes))
                self.assertEqual(sum(fraction(part) for part in told), fraction(showing_of(one.scale, pushes)))
                load = self.takes_lists(borne_load, one, pushes)
                want = load_of(one, pushes)
                if want is None:
                    self.assertIsNone(load)
                else:
                    self.tuples(load)
                    self.assertEqual((fraction(load[0]), *[fraction(part) for part in load[1]]), want)

    def test_refused_pushes(self):
        one = square(1, 2, 3, 4)
        for call in (showings_of, borne_load):
            for thing in NOT_SEQUENCES + ((), (ONE,) * 2, (ONE,) * 3, [ONE] * 5):
                self.refuses(BadPushes, (0, "many"), call, one, thing)
            for push in NOT_RATIOS + (ratio(-1),):
                self.refuses(BadPushes, (2, "push"), call, one, (ONE, ONE, push, None))

    def test_pushes_are_of_any_size(self):
        one = square(1, 2, 3, 4)
        far = (10 ** 250 + 1, 10 ** 249)
        self.assertEqual(showings_of(one, (far, ZERO, ZERO, ZERO))[0], far)
        self.assertEqual(borne_load(one, (ZERO, far, ZERO, ZERO)), (far, corners()[1]))
        self.assertEqual(fraction(showings_of(one, (ZERO, far, far, ZERO))[1]), 3 * Fraction(*far))


if __name__ == "__main__":
    unittest.main()
