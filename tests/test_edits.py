"""Points 10.1 to 10.3: weighings, and edits of them."""

import random
import unittest

from tests.helper import (
    Case, LARGE, NOT_ARM_SIZES, NOT_PLACES, NOT_RATIOS, NOT_SEQUENCES, NOT_WEIGHTS, NOT_WHOLE, SMALL, corners, place,
    plain, ratio, scale,
)
from tests.weighed import (
    LOADS, ONE, OWN, ZERO, even_scale, flat_scale, on_plain, on_scale, plain_with, some_edit, weighings,
)
from wherelaid.arms import with_arm, with_factor, with_place
from wherelaid.edits import Weighing, check_edits, weighing_after
from wherelaid.errors import BadEdit, BadLoads
from wherelaid.laying import Own

FAR = place(50, 50)
LOAD = (ONE, place(1, 1))
# Edits of each form, for a Scale and for a Plain.
OF_SCALE = (("arm", ("out", 0), ratio(7)), ("arm", ("inward", 2), ratio("1/3")), ("arm", ("seat", 3), ratio(9)))
OF_PLAIN = (("factor", 0, ratio(7)), ("factor", 3, (LARGE, 1)))
OF_BOTH = (("leg", 1, place(6, 0)), ("load", (ratio(4), place(0, 1))), ("weight", 2, ratio("5/2")), ("own", ratio(20)))


def one_by_one(weighing, edits):
    """The weighing after the edits, by the words of the document."""
    for edit in edits:
        word, *parts = edit
        one, own, loads = weighing.scale, weighing.own, list(weighing.loads)
        if word == "arm":
            one = with_arm(one, *parts)
        elif word == "factor":
            one = with_factor(one, *parts)
        elif word == "leg":
            one = with_place(one, *parts)
        elif word == "load":
            loads.append(parts[0])
        elif word == "weight":
            loads[parts[0]] = (parts[1], loads[parts[0]][1])
        else:
            own = Own(parts[0], own.place)
        weighing = Weighing(one, own, loads)
    return weighing


def same_thing(one, other):
    """Whether both edits set the same thing, or are both "load"."""
    return one[0] == other[0] and (one[0] in ("load", "own") or one[1] == other[1])


class Weighings(Case):

    def test_attributes(self):
        one = Weighing(plain(), OWN, [[ONE, [ZERO, ratio(2)]], (ZERO, FAR)])
        self.assertEqual((one.scale, one.own, one.loads), (plain(), OWN, ((ONE, place(0, 2)), (ZERO, FAR))))
        self.tuples(one.loads)
        self.assertEqual(one.borne, (OWN.as_load, (ONE, place(0, 2)), (ZERO, FAR)))
        self.tuples(one.borne)
        self.assertEqual(Weighing(scale(), OWN, ()).borne, ((ratio(10), place(2, 1)),))
        self.assertEqual(len(Weighing(plain(), OWN, (LOAD,) * 7).borne), 8)
        # The own weight may lie anywhere.
        self.assertEqual(Weighing(plain(), Own(ONE, FAR), ()).own.place, FAR)

    def test_lists_are_not_kept(self):
        loads = [[ONE, [ZERO, ZERO]]]
        one = Weighing(plain(), OWN, loads)
        loads[0][1].clear()
        loads.clear()
        self.assertEqual(one.loads, ((ONE, place(0, 0)),))

    def test_refusals(self):
        for thing in NOT_SEQUENCES + ((LOAD,) * 8, (LOAD,) * 9):
            self.refuses(BadLoads, (0, "many"), Weighing, plain(), OWN, thing)
        for index, load, word in ((1, None, "load"), (0, (ONE,), "load"), (1, (ratio(-1), None), "weight"), (0, (ONE, (0, 0)), "place")):
            rows = [LOAD, LOAD]
            rows[index] = load
            self.refuses(BadLoads, (index, word), Weighing, plain(), OWN, rows)
        # That they are too many is the first word.
        self.refuses(BadLoads, (0, "many"), Weighing, plain(), OWN, (*[LOAD] * 3, (ONE, None), *[LOAD] * 4))

    def test_equality(self):
        self.told_apart(Weighing(plain(), OWN, LOADS), {
            "scale": plain_with(1, 2, 3, 5), "own": Own(ONE, OWN.place), "loads": LOADS[:2]})
        self.unlike(Weighing(flat_scale(), OWN, ()), Weighing(even_scale(), OWN, ()))


class Checks(Case):

    def test_right_ones(self):
        for one, edits in ((on_scale(), OF_SCALE + OF_BOTH), (on_plain(), OF_PLAIN + OF_BOTH)):
            self.assertEqual(self.takes_lists(check_edits, one, edits), edits)
            self.assertEqual(check_edits(one, [list(edit) for edit in edits]), edits)
            self.assertEqual(check_edits(one, []), ())
            self.assertEqual(check_edits(one, edits[-1:] * 40), edits[-1:] * 40)
        lists = [["arm", ["out", 0], ONE], ["leg", 0, [ONE, ONE]], ["load", [ONE, [ZERO, ZERO]]]]
        told = check_edits(on_scale(), lists)
        self.assertEqual(told, (("arm", ("out", 0), ONE), ("leg", 0, (ONE, ONE)), ("load", (ONE, (ZERO, ZERO)))))
        for edit in told:
            self.assertTrue(type(edit) is tuple and all(type(part) in (str, int, tuple) for part in edit))
        self.tuples(told[2][1])

    def refuse(self, one, told, edits):
        self.refuses(BadEdit, told, check_edits, one, edits)
        self.refuses(BadEdit, told, weighing_after, one, edits)

    def test_many_and_forms(self):
        good = ("own", ONE)
        for one in (on_scale(), on_plain()):
            for thing in NOT_SEQUENCES + ((good,) * 41,):
                self.refuse(one, (0, "many"), thing)
            for edit in NOT_SEQUENCES + ((), [], ("own",), ("own", ONE, ONE), ("weight", 0), ("weight", ONE), ("leg", 0),
                                         ("leg", 0, FAR, FAR), ("load",), ("load", ONE, FAR), ("Own", ONE), (None, ONE),
                                         (["own"], ONE), ("arm", ONE), ("factor", ONE), (b"own", ONE), (0, 1, 2)):
                self.refuse(one, (1, "edit"), (good, edit, None))
        self.refuse(on_plain(), (1, "edit"), [good, ("arm", ("out", 0), ONE)])
        self.refuse(on_plain(), (0, "edit"), [("arm", None, None)])
        self.refuse(on_scale(), (0, "edit"), [("factor", 0, ONE), None])
        self.refuse(on_scale(), (0, "edit"), [("factor", None, None)])

    def test_arms_and_factors(self):
        for arm in NOT_SEQUENCES + ((), ("out",), ("out", 3), ("out", True), ("inward", 0), ("seat", 4), ("seat", -1), ("in", 1),
                                    ("out", 0, 0), (0, "out")):
            self.refuse(on_scale(), (1, "arm"), (OF_SCALE[0], ("arm", arm, None), None))
        for size in NOT_ARM_SIZES:
            self.refuse(on_scale(), (1, "size"), (OF_SCALE[0], ("arm", ("out", 0), size), None))
        for leg in NOT_WHOLE + (4, -1):
            self.refuse(on_plain(), (1, "leg"), (OF_PLAIN[0], ("factor", leg, None), None))
        for size in NOT_RATIOS + (ZERO, ratio(-1), (LARGE + 1, 1), (1, LARGE + 1)):
            self.refuse(on_plain(), (0, "size"), (("factor", 0, size), None))
        self.assertEqual(check_edits(on_plain(), (("factor", 0, (SMALL + 1, 1)),))[0][2], (SMALL + 1, 1))

    def test_legs(self):
        for one in (on_scale(), on_plain()):
            for leg in NOT_WHOLE + (4, -1):
                self.refuse(one, (0, "leg"), (("leg", leg, None), None))
            for spot in NOT_PLACES:
                self.refuse(one, (1, "place"), (("own", ONE), ("leg", 0, spot), None))
            # Places of other legs are barred even if these were led away before.
            self.refuse(one, (0, "twice"), (("leg", 0, corners()[1]), None))
            self.refuse(one, (1, "twice"), (("leg", 1, FAR), ("leg", 0, list(corners()[1]))))
            self.refuse(one, (1, "twice"), (("leg", 1, FAR), ("leg", 0, FAR)))
            self.refuse(one, (2, "twice"), (("leg", 1, FAR), ("leg", 1, place(7, 7)), ("leg", 0, FAR)))
            self.assertEqual(len(check_edits(one, (("leg", 0, corners()[0]), ("leg", 0, FAR), ("leg", 0, FAR),
                                                   ("leg", 0, corners()[0])))), 4)

    def test_loads(self):
        for one in (on_scale(), on_plain()):
            for load in NOT_SEQUENCES + ((), (ONE,), (ONE, FAR, ONE), (ratio(-1), FAR), (ONE, (0, 0)), (None, FAR), FAR):
                self.refuse(one, (1, "load"), (("load", LOAD), ("load", load), None))
            self.assertEqual(len(check_edits(one, [("load", LOAD)] * 4)), 4)
            self.refuse(one, (4, "load"), [("load", LOAD)] * 5)
            self.refuse(one, (5, "load"), [("load", LOAD)] * 4 + [("own", ONE), ("load", LOAD)])
        self.assertEqual(len(check_edits(on_plain(()), [("load", LOAD)] * 7)), 7)
        self.refuse(on_plain(()), (7, "load"), [("load", LOAD)] * 8)
        self.refuse(on_plain((LOAD,) * 7), (0, "load"), [("load", LOAD)])
        for number in NOT_WHOLE + (3, -1):
            self.refuse(on_plain(), (1, "load"), (("load", LOAD), ("weight", number, None)))
        self.refuse(on_plain(()), (1, "load"), (("load", LOAD), ("weight", 0, ONE)))

    def test_weights(self):
        for weight in NOT_WEIGHTS:
            self.refuse(on_plain(), (1, "weight"), (("own", ONE), ("weight", 0, weight), None))
            self.refuse(on_scale(), (0, "weight"), (("own", weight), None))
        self.assertEqual(check_edits(on_plain(), (("weight", 0, ZERO), ("own", ZERO)))[1], ("own", ZERO))

    def test_the_first_wrong_edit(self):
        self.refuse(on_plain(), (1, "weight"), [("own", ONE), ("own", None), ("leg", 9, None), ("edit",)])
        self.refuse(on_plain(), (0, "leg"), [("leg", 9, corners()[0]), ("own", None)])


class After(Case):

    def test_samples(self):
        told = weighing_after(on_plain(), (*OF_PLAIN, *OF_BOTH))
        self.assertEqual(told.scale.factors, (ratio(7), ratio(2), ratio(3), (LARGE, 1)))
        self.assertEqual(told.scale.places, (corners()[0], place(6, 0), *corners()[2:]))
        self.assertEqual(told.own, Own(ratio(20), OWN.place))
        self.assertEqual(told.loads, (*LOADS[:2], (ratio("5/2"), LOADS[2][1]), (ratio(4), place(0, 1))))
        told = weighing_after(on_scale(), OF_SCALE)
        self.assertEqual((told.scale.levers[0].out, told.scale.levers[2].inward, told.scale.legs[3][1]),
                         (ratio(7), ratio("1/3"), ratio(9)))
        self.assertEqual(weighing_after(on_scale(), ()), on_scale())
        self.assertEqual(weighing_after(on_plain(), [["own", ONE], ["own", ratio(2)]]).own.weight, ratio(2))

    def test_one_after_another(self):
        lot = random.Random(1)
        swaps = 0
        for name, one in weighings():
            before = Weighing(one.scale, one.own, one.loads)
            edits = []
            for _ in range(12):
                edit = some_edit(one, lot)
                try:
                    check_edits(one, [*edits, edit])
                except BadEdit:
                    continue
                edits.append(edit)
            told = self.takes_lists(weighing_after, one, tuple(edits))
            self.assertEqual(told, one_by_one(one, edits), name)
            self.assertIs(type(told.scale), type(one.scale))
            self.assertEqual(one, before)
            for at in range(len(edits) - 1):
                turned = [*edits[:at], edits[at + 1], edits[at], *edits[at + 2:]]
                if not same_thing(edits[at], edits[at + 1]):
                    swaps += 1
                    self.assertEqual(weighing_after(one, turned), told)
                # Whatever is left out or exchanged, the edits are still right.
                check_edits(one, turned)
                check_edits(one, [*edits[:at], *edits[at + 1:]])
        self.assertGreater(swaps, 100)

    def test_40_edits(self):
        edits = [("factor", k % 4, ratio(k + 1)) for k in range(40)]
        self.assertEqual(weighing_after(on_plain(), edits).scale.factors, tuple(ratio(k) for k in (37, 38, 39, 40)))


if __name__ == "__main__":
    unittest.main()
