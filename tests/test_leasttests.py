"""Point 6.8: the fewest places of a pool that serve a goal."""

import random
import time
import unittest
from itertools import combinations

from tests.helper import (
    Case, LAYOUTS, NOT_PLACES, NOT_SEQUENCES, corners, lean_by_solving, place, small_layouts, spots,
)
from tests.test_evenplans import choices
from tests.test_fits import ONE
from wherelaid.errors import BadGoal, BadPlaces, BadPool, TooMany
from wherelaid.evenplans import even_plan
from wherelaid.leasttests import least_tests
from wherelaid.plans import sure_legs

MIDDLE = place(2, 1)


def by_words(places, pool, goal):
    """All lots that serve with the fewest places, by what plans tell."""
    legs = len(places)
    for size in range(1, len(pool) + 1):
        found = []
        for lot in combinations(range(len(pool)), size):
            plan = [pool[one] for one in lot]
            if goal == "even":
                serves = size == legs and even_plan(places, plan) is None
            else:
                sure = sure_legs(places, plan)
                serves = len(sure) == legs if goal == "all" else goal[1] in sure
            if serves:
                found.append(lot)
        if found:
            return tuple(found)
    return ()


class LeastTests(Case):

    def test_samples(self):
        places = corners()
        pool = (MIDDLE, *places, place(2, 0), place(4, 1), place(2, 0))
        self.assertEqual(least_tests(places, pool, ("leg", 0)), ((1,),))
        self.assertEqual(least_tests(places, pool[5:], ("leg", 0)), ())
        self.assertEqual(least_tests(places, pool[2:], ("leg", 0)), ((0, 3), (0, 5)))
        self.assertEqual(least_tests(places, pool[2:], ("leg", 2)), ((1,),))
        self.assertEqual(least_tests(places, pool[:5], "all"), ((1, 2, 3, 4),))
        self.assertEqual(least_tests(places, pool[:4], "all"), ())
        self.assertEqual(least_tests(places, (MIDDLE,), "all"), ())
        self.assertEqual(least_tests(places, pool[:3], "even"), ())
        self.assertEqual(least_tests(places, pool[1:5], "even"), ((0, 1, 2, 3),))
        self.assertEqual(least_tests(places, pool[4:] + pool[1:4], "all"), by_words(places, pool[4:] + pool[1:4], "all"))

    def test_against_plans(self):
        lot = random.Random(4)
        kinds = {}
        for name, places in small_layouts():
            for number in range(3):
                pool = tuple(spots(places, f"{name} {number}", (1, 5, 7)[number]))
                if number == 2 and len(places) < 6:
                    pool = lot.sample(places, min(3, len(places))) + list(pool)
                    pool = tuple(pool[:7])
                for goal in ("all", ("leg", lot.randrange(len(places))), "even"):
                    lots = combinations(range(len(pool)), len(places))
                    if goal == "even":
                        many = max([choices(places, [pool[one] for one in row]) for row in lots], default=0)
                        if many > 200:
                            self.refuses(TooMany, (200,), least_tests, places, pool, goal)
                            kinds["many"] = True
                            continue
                        if many > 60:
                            continue
                    told = self.takes_lists(least_tests, places, pool, goal)
                    self.assertEqual(told, by_words(places, pool, goal), name)
                    self.tuples(told)
                    kinds[goal[0], bool(told)] = True
        self.assertEqual(set(kinds), {"many"} | {(word, found) for word in ("a", "leg", "e") for found in (True, False)})

    def test_as_many_choices_as_can_be(self):
        # It stays quick with lots of choices, and with great numbers.
        started = time.process_time()
        grid = LAYOUTS["grid"]
        some = [where for where in spots(grid, 3, 60) if len(lean_by_solving(grid, [(ONE, where)])) == 2][:8]
        self.assertEqual(len(some), 8)
        least_tests(grid, some, "even")
        least_tests(LAYOUTS["great"], LAYOUTS["great"] + LAYOUTS["great"][:2], "even")
        least_tests(LAYOUTS["great"], LAYOUTS["great"] + LAYOUTS["great"][:2], "all")
        self.assertLess(time.process_time() - started, 30)

    def test_refused_pools(self):
        for goal in ("all", None):
            for thing in NOT_SEQUENCES + ((), (MIDDLE,) * 9):
                self.refuses(BadPool, (0, "many"), least_tests, corners(), thing, goal)
            for thing in NOT_PLACES:
                self.refuses(BadPool, (1, "place"), least_tests, corners(), (MIDDLE, thing, None), goal)
            self.refuses(BadPool, (1, "outside"), least_tests, corners(), (MIDDLE, place(9, 9), None), goal)
            self.refuses(BadPlaces, (0, "many"), least_tests, None, None, goal)

    def test_refused_goals(self):
        for goal in (None, 0, True, "", "legs", "leg", "All", ("leg",), ("leg", 4), ("leg", -1), ("leg", True),
                     ("leg", None), ("leg", 0, 0), ("all",), ("legs", 0), (0, "leg"), {0: "leg", 1: 0}, ("even", 0),
                     ["all"]):
            self.refuses(BadGoal, (goal,), least_tests, corners(), (MIDDLE,), goal)
            self.refuses(BadGoal, (goal,), least_tests, LAYOUTS["hexagon"][:4], (LAYOUTS["hexagon"][0],) * 8, goal)
        self.assertEqual(least_tests(corners(), corners(), ["leg", 3]), ((3,),))

    def test_too_many(self):
        hexagon = LAYOUTS["hexagon"]
        pool = hexagon + (place(0, 0), place("1/9", "1/7"))
        self.assertEqual(least_tests(hexagon, pool, "all"), ((0, 1, 2, 3, 4, 5),))
        self.refuses(TooMany, (200,), least_tests, hexagon, (place(0, 0),) * 6, "even")
        # Fewer places than legs: there is no lot to count.
        self.assertEqual(least_tests(hexagon, (place(0, 0),) * 5, "even"), ())
        # One lot alone is too many, a pool of others would serve.
        self.refuses(TooMany, (200,), least_tests, hexagon, hexagon[:2] + (place(0, 0),) * 6, "even")


if __name__ == "__main__":
    unittest.main()
