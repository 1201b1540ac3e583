"""Point 1.10."""

import unittest

from tests.helper import (
    Case, NOT_PLACES, NOT_SEQUENCES, NOT_WEIGHTS, SMALL, deep_list, fraction, place, ratio,
)
from wherelaid.errors import BadLoads, NoCentre
from wherelaid.loads import centre_of, check_loads, moment_of, one_load, total_of

LOADS = (
    (ratio(3), place(1, 2)), (ratio("1/2"), place(-4, "1/3")), (ratio(0), place(SMALL, -SMALL)),
    (ratio(SMALL), place(0, 0)), (ratio(3), place(1, 2)), (ratio("2/7"), place("5/3", 8)),
    (ratio(f"1/{SMALL}"), place(7, 7)), (ratio(1), place(0, f"1/{SMALL}")),
)
NOTHING = ((ratio(0), place(1, 2)), (ratio(0), place(3, 4)), (ratio(0), place(1, 2)))


class Checks(Case):

    def test_none_to_eight(self):
        for many in range(9):
            told = LOADS[:many]
            for loads in (told, list(told), deep_list(told), tuple(deep_list(told))):
                self.assertEqual(check_loads(loads), told)
                self.tuples(check_loads(loads))

    def test_wrong_numbers_of_loads(self):
        for loads in NOT_SEQUENCES + (LOADS + LOADS[:1], list(LOADS + LOADS[:1]), [None] * 9):
            self.refuses(BadLoads, (0, "many"), check_loads, loads)

    def test_wrong_entries(self):
        for index in range(8):
            loads = list(LOADS)
            for thing in NOT_SEQUENCES + ((), (ratio(1),), LOADS[0] + (ratio(1),)):
                loads[index] = thing
                self.refuses(BadLoads, (index, "load"), check_loads, loads)
            for thing in NOT_WEIGHTS:
                loads[index] = (thing, place(0, 0))
                self.refuses(BadLoads, (index, "weight"), check_loads, loads)
            for thing in NOT_PLACES:
                loads[index] = [ratio(0), thing]
                self.refuses(BadLoads, (index, "place"), check_loads, loads)

    def test_two_wrong_things(self):
        good = LOADS[0]
        self.refuses(BadLoads, (0, "weight"), check_loads, [(None, None), None])
        self.refuses(BadLoads, (0, "place"), check_loads, [(ratio(1), None), None])
        self.refuses(BadLoads, (1, "load"), check_loads, [good, (), (None, None)])

    def test_later_changes(self):
        loads = deep_list(LOADS)
        made = check_loads(loads)
        loads[0][1][0] = ratio(9)
        loads[1][0] = ratio(9)
        loads.pop()
        self.assertEqual(made, LOADS)


class Sums(Case):

    # Weights below 0 and beyond all bounds: nothing is checked there.
    wild = ((ratio(-2), place(1, 10 ** 60)), (ratio(f"1/{10 ** 60}"), place(-3, 5))) + LOADS

    def rows(self):
        for many in range(len(self.wild) + 1):
            yield self.wild[:many]
            yield deep_list(self.wild[:many])
        yield NOTHING

    def test_total_and_moment(self):
        for loads in self.rows():
            rows = [(fraction(weight), fraction(x), fraction(y)) for weight, (x, y) in loads]
            across = ratio(sum(weight * x for weight, x, _ in rows))
            along = ratio(sum(weight * y for weight, _, y in rows))
            self.assertEqual(total_of(loads), ratio(sum(weight for weight, _, _ in rows)))
            self.assertEqual(moment_of(loads), (across, along))
            self.tuples((total_of(loads), moment_of(loads)))

    def test_centre(self):
        for loads in self.rows():
            total = fraction(total_of(loads))
            if total != 0:
                told = tuple(ratio(fraction(part) / total) for part in moment_of(loads))
                self.assertEqual(centre_of(loads), told)
                self.assertEqual(one_load(loads), ((ratio(total), told),))
                self.tuples(one_load(loads))

    def test_no_centre(self):
        against = ((ratio(2), place(1, 2)), (ratio(-2), place(3, 4)))
        for loads in ((), [], NOTHING, list(NOTHING), NOTHING[:1], against):
            self.refuses(NoCentre, (len(loads),), centre_of, loads)
            self.refuses(NoCentre, (len(loads),), one_load, loads)

    def test_small_sample(self):
        loads = [[ratio(3), [ratio(1), ratio(2)]], (ratio(1), place(5, -2))]
        self.assertEqual(total_of(loads), ratio(4))
        self.assertEqual(moment_of(loads), place(8, 4))
        self.assertEqual(centre_of(loads), place(2, 1))
        self.assertEqual(one_load(loads), ((ratio(4), place(2, 1)),))
        self.assertEqual((total_of(()), moment_of([])), (ratio(0), place(0, 0)))


if __name__ == "__main__":
    unittest.main()
