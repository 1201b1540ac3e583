"""Points 10.11 and 10.12: a bench with edits that stand, are taken back and are tried."""

import random
import unittest

from tests.helper import Case, NOT_SEQUENCES, NOT_WHOLE, corners, place, ratio
from tests.test_wishes import granted, some_wish
from tests.weighed import LOADS, ONE, OWN, ZERO, on_plain, on_scale, plain_with, some_edit, weighings
from wherelaid.bench import Bench
from wherelaid.edits import Weighing, check_edits, weighing_after
from wherelaid.errors import BadEdit, BadWish, NoEdit
from wherelaid.orders import laid_before, some_order
from wherelaid.skins import Range, Tips, range_of
from wherelaid.wishes import broken_wish

FIRST, SECOND, THIRD = ("own", ratio(20)), ("weight", 0, ratio(7)), ("load", (ONE, place(1, 1)))


def state(bench):
    """All that a bench tells of itself."""
    return (bench.start, bench.weighing, bench.standing, bench.log, len(bench), list(bench))


class Oops(Exception):
    """An error of the tests' own."""


class Standing(Case):

    def holds(self, bench, start, standing, log):
        """Check all attributes by the words of the document."""
        self.assertEqual(bench.start, start)
        self.assertEqual(bench.standing, tuple(standing))
        self.assertEqual(bench.log, tuple(log))
        self.assertEqual(bench.weighing, weighing_after(start, [edit for _, edit in standing]))
        self.assertEqual((len(bench), list(bench)), (len(standing), list(standing)))
        for rows in (bench.standing, bench.log):
            self.assertIs(type(rows), tuple)
            self.assertTrue(all(type(row) is tuple and type(row[-1]) is tuple for row in rows))

    def test_samples(self):
        start = on_plain()
        bench = Bench(start)
        self.assertIs(bench.start, start)
        self.holds(bench, start, [], [])
        self.assertEqual(bench.put(list(FIRST)), 1)
        self.assertEqual(bench.put(["load", [ONE, [ONE, ONE]]]), 2)
        self.holds(bench, start, [(1, FIRST), (2, THIRD)], [("put", 1, FIRST), ("put", 2, THIRD)])
        self.assertIsNone(bench.take_back(1))
        self.holds(bench, start, [(2, THIRD)], [("put", 1, FIRST), ("put", 2, THIRD), ("back", 1, FIRST)])
        self.assertEqual(bench.put(FIRST), 3)
        self.assertEqual(bench.standing, ((2, THIRD), (3, FIRST)))
        bench.take_back(3)
        bench.take_back(2)
        self.assertEqual((bench.weighing, bench.standing, len(bench), len(bench.log)), (start, (), 0, 6))
        # A number that was given does not come back.
        self.assertEqual(bench.put(SECOND), 4)

    def test_later_ones_count(self):
        bench = Bench(on_plain())
        for weight in (5, 6, 7):
            bench.put(("own", ratio(weight)))
        self.assertEqual(bench.weighing.own.weight, ratio(7))
        bench.take_back(2)
        self.assertEqual(bench.weighing.own.weight, ratio(7))
        bench.take_back(3)
        self.assertEqual(bench.weighing.own.weight, ratio(5))
        bench.take_back(1)
        self.assertEqual(bench.weighing.own, OWN)

    def test_lists_are_not_kept(self):
        bench = Bench(on_scale())
        edit = ["arm", ["out", 0], ratio(5)]
        bench.put(edit)
        edit[1].clear()
        edit.clear()
        self.assertEqual(bench.standing, ((1, ("arm", ("out", 0), ratio(5))),))

    def test_edits_at_random(self):
        lot = random.Random(1)
        taken = 0
        for name, start in weighings():
            bench, standing, log, given = Bench(start), [], [], 0
            for _ in range(15):
                if standing and lot.random() < 0.35:
                    number, edit = lot.choice(standing)
                    bench.take_back(number)
                    standing.remove((number, edit))
                    log.append(("back", number, edit))
                    taken += 1
                    continue
                edit = some_edit(start, lot)
                before = state(bench)
                try:
                    check_edits(start, [*[own for _, own in standing], edit])
                except BadEdit as error:
                    self.refuses(BadEdit, (0, error.what), bench.put, edit)
                    self.assertEqual(state(bench), before)
                    continue
                given += 1
                self.assertEqual(bench.put(edit), given, name)
                standing.append((given, edit))
                log.append(("put", given, edit))
            self.holds(bench, start, standing, log)
        self.assertGreater(taken, 100)

    def test_40_edits(self):
        bench = Bench(on_plain())
        for number in range(40):
            self.assertEqual(bench.put(("own", ratio(number))), number + 1)
        self.assertEqual((len(bench), bench.weighing.own.weight), (40, ratio(39)))
        for number in range(40, 20, -1):
            bench.take_back(number)
        self.assertEqual((len(bench), bench.weighing.own.weight, len(bench.log)), (20, ratio(19), 60))

    def refuse(self, bench, what, edit):
        before = state(bench)
        self.refuses(BadEdit, (0, what), bench.put, edit)
        self.assertEqual(state(bench), before)

    def test_refused_edits(self):
        bench = Bench(on_plain())
        bench.put(FIRST)
        bench.put(("leg", 1, place(9, 9)))
        for edit in NOT_SEQUENCES + ((), ("own",), ("arm", ("out", 0), ONE), [FIRST]):
            self.refuse(bench, "edit", edit)
        for what, edit in (("leg", ("factor", 4, None)), ("size", ("factor", 0, ZERO)), ("leg", ("leg", 4, None)),
                           ("place", ("leg", 0, None)), ("load", ("load", None)), ("load", ("weight", 3, None)), ("weight", ("own", None))):
            self.refuse(bench, what, edit)
        self.refuse(Bench(on_scale()), "arm", ("arm", ("out", 9), None))
        # The places of all legs at the start, and those that standing edits set, are barred.
        self.refuse(bench, "twice", ("leg", 0, corners()[1]))
        self.refuse(bench, "twice", ("leg", 0, place(9, 9)))
        bench.take_back(2)
        self.refuse(bench, "twice", ("leg", 0, corners()[1]))
        self.assertEqual(bench.put(("leg", 0, place(9, 9))), 3)
        # Loads that standing edits add count, but have no numbers.
        for number in range(4):
            bench.put(THIRD)
        self.refuse(bench, "load", THIRD)
        self.refuse(bench, "load", ("weight", 3, ONE))
        bench.take_back(5)
        self.assertEqual(bench.put(THIRD), 8)

    def test_no_such_edit(self):
        bench = Bench(on_plain())
        bench.put(FIRST)
        bench.put(SECOND)
        bench.take_back(1)
        before = state(bench)
        for number in NOT_WHOLE + (0, 1, 3, -1):
            self.refuses(NoEdit, (number,), bench.take_back, number)
        self.assertEqual(state(bench), before)
        bench.take_back(2)
        self.refuses(NoEdit, (2,), bench.take_back, 2)
        fresh = Bench(on_plain())
        fresh.put(FIRST)
        self.refuses(NoEdit, (True,), fresh.take_back, True)

    def test_iteration_goes_over_what_stood(self):
        bench = Bench(on_plain())
        for edit in (FIRST, SECOND, THIRD):
            bench.put(edit)
        seen = []
        for number, edit in bench:
            seen.append((number, edit))
            bench.take_back(number)
        self.assertEqual(seen, [(1, FIRST), (2, SECOND), (3, THIRD)])
        self.assertEqual(len(bench), 0)

    def test_benches_are_apart(self):
        one, other = Bench(on_plain()), Bench(on_plain())
        one.put(FIRST)
        self.assertEqual((len(one), len(other), other.put(SECOND)), (1, 0, 1))


class Asking(Case):

    def test_present_wishes_and_ranges(self):
        lot = random.Random(2)
        kinds = set()
        for name, start in weighings(2):
            bench = Bench(start)
            for _ in range(3):
                edit = some_edit(start, lot)
                try:
                    bench.put(edit)
                except BadEdit:
                    pass
                wishes = (some_wish(start, lot),)
                told = bench.broken_now(wishes)
                self.assertEqual(told, broken_wish(bench.weighing, wishes), name)
                self.assertEqual(told is None, granted(bench.weighing, wishes[0]))
                shown = bench.shown_range()
                self.assertEqual(shown, range_of(bench.weighing.scale, bench.weighing.borne))
                kinds |= {type(told), type(shown)}
        self.assertTrue({Range, Tips, type(None)} <= kinds)

    def test_samples(self):
        bench = Bench(Weighing(plain_with(1, 2, 4, 2), OWN, LOADS[:1]))
        self.assertEqual(bench.broken_now([["settled"]]).index, 0)
        self.assertEqual((bench.shown_range().least, bench.shown_range().greatest), (ratio(26), ratio("65/2")))
        bench.put(("factor", 2, ratio(3)))
        self.assertIsNone(bench.broken_now([["settled"]]))
        self.assertEqual((bench.shown_range().least, bench.shown_range().greatest), (ratio(26), ratio(26)))
        bench.put(("load", (ratio(100), place(9, 9))))
        self.assertIs(type(bench.shown_range()), Tips)

    def test_refused_wishes(self):
        bench = Bench(on_plain())
        bench.put(FIRST)
        before = state(bench)
        for wishes, index in ((None, 0), ((), 0), ((("even",), ("eve",)), 1), ((("always even", ()),), 0)):
            self.refuses(BadWish, (index,), bench.broken_now, wishes)
        self.assertEqual(state(bench), before)

    def test_an_order_of_laying_played(self):
        # Loads put one after another, in an order that leads through lots that hold, never tip.
        loads = ((ratio(30), place(5, 1)), (ratio(60), place(2, 1)), (ratio(20), place(-1, 1)))
        start = Weighing(plain_with(1, 2, 3, 2), OWN, ())
        order = some_order(start.scale.places, OWN, loads)
        self.assertEqual(order, (1, 0, 2))
        bench = Bench(start)
        for load in order:
            bench.put(("load", loads[load]))
            self.assertIs(type(bench.shown_range()), Range)
        self.assertEqual(laid_before(start.scale.places, OWN, loads[:2]), ((1, 0),))
        other = Bench(start)
        other.put(("load", loads[0]))
        self.assertIs(type(other.shown_range()), Tips)
        # Taken back the other way round, each lot holds again.
        for number in (3, 2, 1):
            bench.take_back(number)
            self.assertIs(type(bench.shown_range()), Range)


class Trials(Case):

    def test_all_is_as_it_was(self):
        bench = Bench(on_plain())
        bench.put(FIRST)
        before = state(bench)
        with bench.trial() as held:
            self.assertIs(held, bench)
            self.assertEqual(state(bench), before)
            self.assertEqual(bench.put(SECOND), 2)
            bench.take_back(1)
            self.assertEqual((bench.standing, len(bench.log)), (((2, SECOND),), 3))
        self.assertEqual(state(bench), before)
        self.assertEqual(bench.put(THIRD), 2)

    def test_errors_go_on(self):
        bench = Bench(on_plain())
        bench.put(FIRST)
        before = state(bench)
        with self.assertRaises(Oops):
            with bench.trial() as held:
                held.put(SECOND)
                raise Oops
        self.assertEqual(state(bench), before)
        with self.assertRaises(NoEdit) as caught:
            with bench.trial() as held:
                held.take_back(1)
                held.take_back(1)
        self.assertEqual(caught.exception.number, 1)
        self.assertEqual(state(bench), before)
        self.assertEqual(bench.put(SECOND), 2)

    def test_trials_within_trials(self):
        bench = Bench(on_plain())
        bench.put(FIRST)
        outside = state(bench)
        with bench.trial():
            self.assertEqual(bench.put(SECOND), 2)
            inside = state(bench)
            with bench.trial() as held:
                self.assertEqual(held.put(THIRD), 3)
                held.take_back(1)
                with self.assertRaises(Oops):
                    with held.trial():
                        self.assertEqual(held.put(THIRD), 4)
                        raise Oops
                self.assertEqual(held.put(THIRD), 4)
            self.assertEqual(state(bench), inside)
            self.assertEqual(bench.put(THIRD), 3)
        self.assertEqual(state(bench), outside)
        self.assertEqual(bench.put(THIRD), 2)

    def test_the_beginning_is_that_of_the_block(self):
        bench = Bench(on_plain())
        trial = bench.trial()
        bench.put(FIRST)
        before = state(bench)
        with trial:
            bench.put(SECOND)
            bench.take_back(1)
        self.assertEqual(state(bench), before)
        # Nothing happens where no block is entered.
        bench.trial()
        self.assertEqual(bench.put(SECOND), 2)
        self.assertEqual(len(bench), 2)

    def test_leaving_by_other_ways(self):
        bench = Bench(on_plain())

        def leave():
            for number in range(3):
                with bench.trial():
                    bench.put(FIRST)
                    if number == 0:
                        continue
                    return len(bench)
            return None

        self.assertEqual(leave(), 1)
        self.assertEqual((len(bench), bench.log, bench.put(FIRST)), (0, (), 1))

    def test_tried(self):
        bench = Bench(on_plain())
        bench.put(FIRST)
        before = state(bench)
        seen = []

        def call(held):
            seen.append(held)
            held.put(SECOND)
            return [held.put(THIRD), held.weighing.own.weight, len(held)]

        self.assertEqual(bench.tried(call), [3, ratio(20), 3])
        self.assertIs(seen[0], bench)
        self.assertEqual(state(bench), before)
        self.assertIsNone(bench.tried(lambda held: held.take_back(1)))
        self.assertEqual(bench.tried(lambda held: held.tried(lambda inner: inner.put(SECOND)) + held.put(SECOND)), 4)
        self.assertEqual(state(bench), before)

    def test_tried_raises(self):
        bench = Bench(on_plain())
        bench.put(FIRST)
        before = state(bench)

        def call(held):
            held.put(SECOND)
            raise Oops("told")

        with self.assertRaises(Oops) as caught:
            bench.tried(call)
        self.assertEqual(str(caught.exception), "told")
        self.assertEqual(state(bench), before)
        self.refuses(BadEdit, (0, "edit"), bench.tried, lambda held: held.put(SECOND) and held.put(None))
        self.assertEqual(state(bench), before)
        self.assertEqual(bench.put(SECOND), 2)

    def test_a_mend_tried_out(self):
        bench = Bench(Weighing(plain_with(1, 2, 4, 2), OWN, ()))

        def mended(held):
            held.put(("factor", 2, ratio(3)))
            return held.broken_now((("settled",),))

        self.assertIsNone(bench.tried(mended))
        self.assertIsNotNone(bench.broken_now((("settled",),)))


if __name__ == "__main__":
    unittest.main()
