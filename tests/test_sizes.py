"""Points 10.6 and 10.7: all sizes of one thing with which wishes are granted."""

import inspect
import random
import unittest
from fractions import Fraction

from tests.helper import NOT_SEQUENCES, NOT_WHOLE, Case, fraction, place, ratio
from tests.test_wishes import OF_BOTH, OF_SCALE, PARTED, SEATS, granted
from tests.weighed import (
    LOADS, ONE, OWN, ZERO, even_scale, flat_scale, on_plain, on_scale, plain_with, weighings,
)
from wherelaid.always import spoiling_arms
from wherelaid.arms import arm_size, arms_of
from wherelaid.edits import Weighing, weighing_after
from wherelaid.errors import BadSlot, BadWish
from wherelaid.laying import Own, least_margins
from wherelaid.ratios import is_arm_size, is_weight
from wherelaid.scales import Plain
from wherelaid.scaletext import read_scale, scale_text
from wherelaid.settled import settling_factor
from wherelaid.sizes import Excluding, Sizes, single_mends, sizes_for
from wherelaid.steady import least_own
from wherelaid.swaps import plain_swaps

NEAR = Fraction(1, 10 ** 4)


def slots_of(one):
    """All slots in the order of the document."""
    if isinstance(one.scale, Plain):
        first = [("factor", leg) for leg in range(len(one.scale))]
    else:
        first = [("arm", arm) for arm in arms_of(one.scale)]
    return first + [("weight", number) for number in range(len(one.loads))] + [("own",)]


def size_in(one, slot):
    """The size that the slot has in the weighing, as a Fraction."""
    if slot[0] == "arm":
        return fraction(arm_size(one.scale, slot[1]))
    if slot[0] == "factor":
        return fraction(one.scale.factors[slot[1]])
    return fraction(one.loads[slot[1]][0] if slot[0] == "weight" else one.own.weight)


def with_size(one, slot, size):
    return weighing_after(one, [(*slot, ratio(size))])


def grants(one, slot, wishes, size):
    after = with_size(one, slot, size)
    return all(granted(after, wish) for wish in wishes)


def line_root(at_one, at_two):
    """Where a straight line with these heights at 1 and 2 is 0, None if it does not fall or rise."""
    return None if at_one == at_two else 1 - at_one / (at_two - at_one)


def turning_sizes(one, slot, wishes):
    """All sizes at which a wish can come to be granted, or no longer: what changes is linear there."""
    found = []
    if slot[0] in ("arm", "factor"):
        own = size_in(one, slot)
        turned = slot[0] == "arm" and slot[1][0] == "out"
        base = [fraction(factor) for factor in one.scale.factors]
        twice = [fraction(factor) for factor in with_size(one, slot, own / 2 if turned else own * 2).scale.factors]
        roots = []
        for swap in plain_swaps(one.scale.places):
            sums = [sum(number * factor for number, factor in zip(swap, row)) for row in (base, twice)]
            roots.append(line_root(*sums))
        bounds = [fraction(wish[1]) * (1 + sign * fraction(wish[2])) for wish in wishes if wish[0] == "within" for sign in (1, -1)]
        for leg, factor in enumerate(base):
            for other in [*base, *bounds]:
                roots.append(line_root(factor - other, twice[leg] - other))
            for other in range(len(base)):
                roots.append(line_root(factor - base[other], twice[leg] - twice[other]))
        found = [own / root if turned else own * root for root in roots if root is not None and root > 0]
    elif any(wish[0] == "any order" for wish in wishes):
        try:
            rows = [[fraction(size) for size in least_margins(one.scale.places, with_size(one, slot, size).own,
                                                              with_size(one, slot, size).loads)] for size in (1, 2)]
            found = [root for root in map(line_root, *rows) if root is not None and root > 0]
        except ValueError:
            found = []
    return sorted(set(found))


def tried_sizes(one, slot, wishes):
    """Sizes at which wishes may turn, close by, between and beyond; in slots that let it, 0."""
    turns = turning_sizes(one, slot, wishes) or [Fraction(1)]
    rows = [*turns, *[(a + b) / 2 for a, b in zip(turns, turns[1:])], turns[0] / 1000, turns[-1] * 1000]
    rows += [size * (1 + sign * NEAR) for size in turns for sign in (1, -1)]
    is_let = is_arm_size
    if slot[0] in ("weight", "own"):
        is_let = is_weight
        rows.append(Fraction(0))
    return [size for size in rows if is_let(ratio(size))]


class Case10(Case):

    def check(self, one, slot, wishes):
        """Check what is told of the slot by the words of the document."""
        told = self.takes_lists(sizes_for, one, slot, wishes)
        tried = tried_sizes(one, slot, wishes)
        if isinstance(told, Sizes):
            self.assertIs(type(told), Sizes)
            for end in (told.low, told.high):
                if end is not None:
                    self.tuples(end)
            self.assertNotEqual(told.low, ZERO)
            low = Fraction(-1) if told.low is None else fraction(told.low)
            high = max([*tried, low]) + 1 if told.high is None else fraction(told.high)
            self.assertLessEqual(low, high)
            ends = [size for size in (low, high, (low + high) / 2) if size > 0 and is_arm_size(ratio(size))]
            for size in [*tried, *ends]:
                self.assertEqual(grants(one, slot, wishes, size), low <= size <= high, (slot, wishes, size, vars(told)))
            return told
        self.assertIs(type(told), Excluding)
        alone = [[size for size in tried if grants(one, slot, (wish,), size)] for wish in wishes]
        empty = [index for index, sizes in enumerate(alone) if not sizes]
        if empty:
            want = (empty[0], empty[0])
        else:
            want = [(j, k) for j in range(len(wishes)) for k in range(j + 1, len(wishes)) if not set(alone[j]) & set(alone[k])][0]
        self.assertEqual((told.first, told.second), want, (slot, wishes))
        return told


class Samples(Case10):

    def test_factors(self):
        bent = Weighing(plain_with(1, 2, 4, 2), OWN, ())
        for leg, size in ((0, 0), (1, 3), (2, 3), (3, 3)):
            told = self.check(bent, ("factor", leg), (("settled",),))
            self.assertEqual(told, Sizes(ratio(size), ratio(size)) if size else Excluding(0, 0))
            self.assertEqual(settling_factor(bent.scale, leg), ratio(size) if size else None)
        self.assertEqual(self.check(bent, ("factor", 0), (("even",),)), Excluding(0, 0))
        odd = Weighing(plain_with(2, 2, 5, 2), OWN, ())
        self.assertEqual(self.check(odd, ("factor", 2), (("even",),)), Sizes(ratio(2), ratio(2)))
        self.assertEqual(self.check(odd, ("factor", 1), (("even",),)), Excluding(0, 0))
        within = ("within", ratio(2), ratio("1/4"))
        self.assertEqual(self.check(odd, ("factor", 2), (within,)), Sizes(ratio("3/2"), ratio("5/2")))
        self.assertEqual(self.check(odd, ("factor", 0), (within,)), Excluding(0, 0))
        self.assertEqual(self.check(odd, ("factor", 2), (("within", ratio(2), ONE),)), Sizes(None, ratio(4)))
        self.assertEqual(self.check(odd, ("factor", 2), (("within", ratio(2), ratio(2)),)), Sizes(None, ratio(6)))
        self.assertEqual(self.check(odd, ("factor", 2), (("within", ratio(2), ZERO),)), Sizes(ratio(2), ratio(2)))
        self.assertEqual(self.check(odd, ("factor", 2), (("within", ratio(3), ratio("1/3")), ("within", ratio(2), ratio("1/2")))),
                         Sizes(ratio(2), ratio(3)))
        rows = ("sure total", ((0, 1), (2, 3)))
        self.assertEqual(self.check(odd, ("factor", 2), (rows,)), Sizes(ratio(2), ratio(2)))
        self.assertEqual(self.check(odd, ("factor", 1), (rows,)), Excluding(0, 0))
        self.assertEqual(self.check(odd, ("factor", 2), (("sure total", ((0, 1, 3), (2,))),)), Sizes(None, None))
        self.assertEqual(self.check(odd, ("factor", 2), (("any order",),)), Sizes(None, None))

    def test_arms(self):
        one = Weighing(even_scale(), OWN, ())
        for arm in arms_of(one.scale):
            for word in ("even", "settled"):
                told = self.check(one, ("arm", arm), ((word,),))
                size = arm_size(one.scale, arm)
                self.assertEqual(told, Sizes(size, size) if arm in spoiling_arms(one.scale, word) else Sizes(None, None))
        # The beam's out arm is 3, and all factors are 1: with 2 they are 3/2, with 6 they are 1/2.
        self.assertEqual(self.check(one, ("arm", ("out", 0)), (("within", ONE, ratio("1/2")),)), Sizes(ratio(2), ratio(6)))
        self.assertEqual(self.check(one, ("arm", ("out", 0)), (("within", ONE, ONE),)), Sizes(ratio("3/2"), None))
        self.assertEqual(self.check(one, ("arm", ("seat", 0)), (("within", ONE, ratio("1/2")),)), Sizes(ratio("3/2"), ratio("9/2")))
        self.assertEqual(self.check(one, ("arm", ("seat", 0)), (("within", ONE, ONE),)), Sizes(None, ratio(6)))
        self.assertEqual(self.check(one, ("arm", ("inward", 1)), (PARTED,)), Sizes(ratio("1/2"), ratio("1/2")))
        self.assertEqual(self.check(one, ("arm", ("out", 3)), (PARTED, ("even",))), Sizes(None, None))

    def test_weights(self):
        one = on_plain(((ratio(3), place(2, 1)), (ratio(30), place(5, 1))))
        order = ("any order",)
        # Own weight 10 at the depth 2, load 1 lies 1 beyond the side: 20 will do.
        self.assertEqual(self.check(one, ("weight", 1), (order,)), Sizes(None, ratio(20)))
        self.assertEqual(self.check(one, ("weight", 0), (order,)), Excluding(0, 0))
        self.assertEqual(self.check(one, ("own",), (order,)), Sizes(ratio(15), None))
        self.assertEqual(least_own(one.scale.places, one.loads, OWN.place), ratio(15))
        self.assertEqual(self.check(one, ("weight", 1), (("settled",),)), Sizes(None, None))
        # With the own weight on the rim nothing may be beyond it.
        rim = Weighing(one.scale, Own(ratio(10), place(4, 1)), one.loads)
        self.assertEqual(self.check(rim, ("weight", 1), (order,)), Sizes(None, ZERO))
        self.assertEqual(self.check(rim, ("own",), (order,)), Excluding(0, 0))
        self.assertEqual(self.check(rim, ("weight", 0), (order, ("even",))), Excluding(0, 0))
        off = Weighing(one.scale, Own(ZERO, place(9, 1)), ())
        self.assertEqual(self.check(off, ("own",), (order,)), Excluding(0, 0))
        self.assertEqual(self.check(off, ("factor", 0), (("settled",), order)), Excluding(1, 1))
        inside = Weighing(one.scale, OWN, one.loads[:1])
        for slot in (("own",), ("weight", 0)):
            self.assertEqual(self.check(inside, slot, (order,)), Sizes(None, None))

    def test_several_wishes(self):
        one = Weighing(plain_with(1, 2, 5, 2), OWN, ())
        low, high = ("within", ratio(5), ratio("4/5")), ("within", ratio(2), ratio("1/2"))
        # The plane asks for 3, the bounds let 1 to 9 and 1 to 3.
        slot = ("factor", 2)
        self.assertEqual(self.check(one, slot, (low, high, ("settled",))), Sizes(ratio(3), ratio(3)))
        self.assertEqual(self.check(one, slot, (low, high)), Sizes(ONE, ratio(3)))
        self.assertEqual(self.check(one, slot, (high, ("even",), low, ("settled",))), Excluding(1, 1))
        four = ("within", ratio(4), ratio("3/4"))
        less = ("within", ratio("5/4"), ratio("3/5"))
        self.assertEqual(self.check(one, slot, (low, less, ("settled",), four)), Excluding(1, 2))
        self.assertEqual(self.check(one, slot, (("settled",), low, four, less)), Excluding(0, 3))
        self.assertEqual(self.check(one, slot, (("settled",),) * 6), Sizes(ratio(3), ratio(3)))


class Many(Case10):

    def simple_wishes(self, one, lot):
        legs = list(range(len(one.scale)))
        factor = lot.choice(one.scale.factors)
        rows = [("settled",), ("even",), ("any order",), ("any order",)]
        if is_arm_size(factor):
            rows += [("within", factor, ratio(lot.choice((0, "1/4", "1/2", 1, 3)))) for _ in range(4)]
        lot.shuffle(legs)
        at = lot.randint(1, len(legs) - 1)
        rows += [("sure total", (tuple(legs[:at]), tuple(legs[at:])))] * 2
        return tuple(lot.sample(rows, lot.choice((1, 1, 2, 3, 6))))

    def test_by_the_words(self):
        lot = random.Random(4)
        kinds = {}
        for number in range(4):
            for name, one in weighings(number):
                for slot in lot.sample(slots_of(one), min(4, len(slots_of(one)))):
                    told = self.check(one, slot, self.simple_wishes(one, lot))
                    if isinstance(told, Sizes):
                        kind = (slot[0], told.low is None, told.high is None)
                    else:
                        kind = (slot[0], told.first == told.second)
                    kinds[kind] = kinds.get(kind, 0) + 1
        for kind in (("arm", False, False), ("factor", False, False), ("arm", True, True), ("weight", True, False),
                     ("own", False, True), ("arm", True), ("arm", False), ("factor", True), ("own", True)):
            self.assertIn(kind, kinds)

    def test_single_mends(self):
        self.assertTrue(inspect.isgeneratorfunction(single_mends))
        lot = random.Random(5)
        many = 0
        for name, one in weighings(3):
            wishes = self.simple_wishes(one, lot)[:2]
            told = list(single_mends(one, wishes))
            want = []
            for slot in slots_of(one):
                sizes = sizes_for(one, slot, wishes)
                if isinstance(sizes, Sizes):
                    want.append((slot, sizes))
            self.assertEqual(told, want, name)
            self.assertTrue(all(type(couple) is tuple and type(couple[0]) is tuple for couple in told))
            many += len(told)
        self.assertGreater(many, 60)

    def test_single_mends_samples(self):
        self.assertEqual(list(single_mends(Weighing(plain_with(1, 2, 4, 2), OWN, LOADS[:1]), [["settled"]])), [
            (("factor", leg), Sizes(ratio(3), ratio(3))) for leg in (1, 2, 3)])
        self.assertEqual(list(single_mends(on_plain(LOADS[:2]), (("any order",),))),
                         [(("weight", 1), Sizes(None, ratio(20))), (("own",), Sizes(ratio(15), None))])
        arms = [(("arm", arm), Sizes(None, None)) for arm in arms_of(flat_scale())]
        told = list(single_mends(Weighing(flat_scale(), OWN, LOADS[:1]), (("any order",),)))
        self.assertEqual(told, [*arms, (("weight", 0), Sizes(None, None)), (("own",), Sizes(None, None))])

    def test_lists_changed_behind_the_call(self):
        wishes = [["settled"]]
        told = list(single_mends(Weighing(plain_with(1, 2, 4, 2), OWN, ()), wishes))
        wishes[0].clear()
        self.assertEqual([slot for slot, _ in told], [("factor", 1), ("factor", 2), ("factor", 3)])

    def test_mended_scales_as_texts(self):
        # A scale that was mended is settled, and is read back so.
        for one in (Weighing(plain_with(1, 2, 4, 2), OWN, LOADS), weighing_after(on_scale(), (("arm", ("seat", 1), ratio(7)),))):
            found = 0
            for slot, sizes in single_mends(one, (("settled",),)):
                if slot[0] in ("arm", "factor") and sizes.low is not None:
                    mended = with_size(one, slot, fraction(sizes.low))
                    back, loads = read_scale(scale_text(mended.scale, mended.loads))
                    self.assertEqual((back, loads), (mended.scale, mended.loads))
                    self.assertTrue(granted(Weighing(back, OWN, loads), ("settled",)))
                    found += 1
            self.assertGreater(found, 1)


class Refusals(Case):

    def test_slots(self):
        slots = NOT_SEQUENCES + (
            (), [], ("own", ONE), ("own", None), ("weight",), ("weight", 0, ONE), ("leg", 0), ("load",), ("load", 0), ("arm",),
            ("arm", ("out", 0), ONE), ("factor",), ("Own",), (None,), (["own"],), ("weight", 3), ("weight", -1), ("weight", True),
            ("weight", "0"), ("weight", None), ("arm", ("out", 4)), ("arm", ("inward", 0)), ("arm", None), ("arm", ("out", True)),
            ("factor", 4), ("factor", -1), ("factor", True), ("leg", 0, place(0, 0)), "own")
        for one, other in ((on_scale(), ("factor", 0)), (on_plain(), ("arm", ("out", 0)))):
            for slot in (*slots, other):
                self.refuses(BadSlot, (slot,), sizes_for, one, slot, None)
        self.refuses(BadSlot, (("weight", 0),), sizes_for, on_plain(()), ("weight", 0), None)
        self.assertEqual(sizes_for(on_scale(), ["arm", ["out", 0]], [["settled"]]), Sizes(None, None))
        self.assertEqual(sizes_for(on_plain(), ["own"], [("settled",)]), Sizes(None, None))

    def test_wishes(self):
        calls = (lambda one, wishes: sizes_for(one, ("own",), wishes), lambda one, wishes: list(single_mends(one, wishes)))
        for call in calls:
            for one in (on_scale(), on_plain()):
                for thing in NOT_SEQUENCES + ((), (("even",),) * 7):
                    self.refuses(BadWish, (0,), call, one, thing)
                for wish in OF_BOTH[5:] + OF_SCALE + (None, ("eve",), ("within", ONE, None), ("sure total", ((0, 1),))):
                    self.refuses(BadWish, (1,), call, one, (("even",), wish, None))
                    self.refuses(BadWish, (0,), call, one, (wish, ("never shows", 9)))
                # What is first wrong counts: no wish, or none that is simple.
                self.refuses(BadWish, (1,), call, one, (("even",), ("told within", ONE), ("eve",)))
                self.refuses(BadWish, (1,), call, one, (("even",), ("eve",), ("told within", ONE)))
        for leg in NOT_WHOLE:
            self.refuses(BadSlot, (("factor", leg),), sizes_for, on_plain(), ("factor", leg), (("even",),))
        self.refuses(BadWish, (0,), sizes_for, on_scale(), ("own",), (("always even", SEATS),))


class Equality(Case):

    def test_equality(self):
        self.told_apart(Sizes(ONE, None), {"low": None, "high": ONE})
        self.told_apart(Excluding(0, 1), {"first": 1, "second": 0})
        self.unlike(Sizes(None, None), Excluding(None, None))


if __name__ == "__main__":
    unittest.main()
