"""Points 10.4 and 10.5: wishes for a weighing, and the first one that is not granted."""

import random
import unittest

from tests.helper import (
    Case, LAYOUTS, NOT_ARM_SIZES, NOT_SEQUENCES, NOT_WEIGHTS, NOT_WHOLE, corners, fraction, place, ratio,
)
from tests.weighed import (
    LOADS, ONE, OWN, ZERO, even_scale, flat_scale, on_plain, on_scale, plain_with, weighings,
)
from wherelaid.always import (
    FailsEven, FailsSettled, always_even, always_even_fault, always_settled, always_settled_fault,
)
from wherelaid.arms import arms_of
from wherelaid.castings import Casting
from wherelaid.cores import Shows, shows_at
from wherelaid.edits import Weighing, weighing_after
from wherelaid.errors import BadWish
from wherelaid.even import Uneven, error_range, outside_error, uneven_of
from wherelaid.groups import Groups
from wherelaid.hulls import Side, side_beyond
from wherelaid.laying import Own, Tipping, any_order, tipping_fault
from wherelaid.orders import some_order, orders_many
from wherelaid.scales import Plain
from wherelaid.settled import Unsettled, is_settled, settled_fault, settled_of
from wherelaid.skins import Range, Tips, range_fault, range_of
from wherelaid.sums import sure_total, total_told
from wherelaid.wishes import Broken, broken_fault, broken_wish, check_wishes

PARTED = ("sure total", ((0, 2), (1, 3)))
SEATS = (("seat", 0), "a"), (("seat", 1), "b")
# One wish of each form for a Plain, and those for a Scale alone.
OF_BOTH = (("settled",), ("even",), ("within", ratio(2), ratio("1/2")), ("any order",), PARTED, ("never shows", 3),
           ("told within", ratio(5)))
OF_SCALE = (("always even", SEATS), ("always settled", SEATS))


def granted(weighing, wish):
    """Whether the weighing grants the wish, by the words of the document; rows as they are passed."""
    word, *parts = wish
    one = weighing.scale
    factors = [fraction(factor) for factor in one.factors]
    if word == "settled":
        return is_settled(one)
    if word == "even":
        return len(set(factors)) == 1
    if word == "within":
        factor, error = [fraction(part) for part in parts]
        return all((1 - error) * factor <= own <= (1 + error) * factor for own in factors)
    if word == "any order":
        if side_beyond(one.places, weighing.own.place) is not None:
            return False
        return any_order(one.places, weighing.own, weighing.loads) is None
    if word == "sure total":
        return all(len({factors[leg] for leg in row}) == 1 for row in parts[0])
    if word == "never shows":
        return shows_at(one, parts[0]) is None
    if word == "always even":
        return always_even(Casting(one, parts[0])) is None
    if word == "always settled":
        return always_settled(Casting(one, parts[0])) is None
    told = range_of(one, weighing.borne)
    return isinstance(told, Range) and fraction(told.greatest) - fraction(told.least) <= fraction(parts[0])


def some_wish(weighing, lot):
    one = weighing.scale
    legs = list(range(len(one)))
    words = ["settled", "even", "within", "any order", "sure total", "never shows", "told within"]
    word = lot.choice(words + ([] if isinstance(one, Plain) else ["always even", "always settled"]))
    if word == "within":
        return (word, ratio(lot.choice((1, 2, "5/2"))), ratio(lot.choice((0, "1/4", "1/2", 1, 2))))
    if word == "sure total":
        lot.shuffle(legs)
        at = lot.randint(1, len(legs) - 1)
        return (word, (tuple(legs[:at]), tuple(legs[at:])))
    if word == "never shows":
        return (word, lot.choice(legs))
    if word.startswith("always"):
        arms = lot.sample(arms_of(one), lot.choice((0, 1, 2)))
        return (word, tuple((arm, lot.choice("ab")) for arm in arms))
    return (word, ratio(lot.choice((0, 1, 5, 40)))) if word == "told within" else (word,)


class Checks(Case):

    def test_right_ones(self):
        self.assertEqual(self.takes_lists(check_wishes, on_plain(), OF_BOTH[:6]), OF_BOTH[:6])
        self.assertEqual(self.takes_lists(check_wishes, on_scale(), OF_BOTH[4:] + OF_SCALE), OF_BOTH[4:] + OF_SCALE)
        for wish in OF_BOTH + OF_SCALE:
            self.assertEqual(check_wishes(on_scale(), [list(wish)]), (wish,))
            self.assertEqual(check_wishes(on_scale(), (wish,) * 6), (wish,) * 6)

    def test_rows_as_they_are_kept(self):
        told = check_wishes(on_scale(), [["sure total", [[3, 1], [2, 0]]], ["always even", [[["seat", 1], "b"], [["out", 0], "a"]]],
                                         ["always settled", []]])
        self.assertEqual(told, (("sure total", ((1, 3), (0, 2))), ("always even", ((("out", 0), "a"), (("seat", 1), "b"))),
                                ("always settled", ())))
        self.assertTrue(all(type(wish) is tuple and type(wish[1]) is tuple for wish in told))
        self.assertTrue(all(type(row) is tuple for wish in told for row in wish[1]))

    def refuse(self, one, index, wishes):
        for call, rest in ((check_wishes, ()), (broken_wish, ()), (broken_fault, (None,))):
            self.refuses(BadWish, (index,), call, one, wishes, *rest)

    def test_refusals(self):
        for one in (on_plain(), on_scale()):
            for thing in NOT_SEQUENCES + ((), [], (("even",),) * 7):
                self.refuse(one, 0, thing)
            for wish in NOT_SEQUENCES + ((), [], ("eve",), (None,), (["even"],), ("even", None), ("settled", ONE), ("within", ONE),
                                         ("within", ONE, ONE, ONE), ("any order", ()), ("sure total",), ("never shows",), ("told within",),
                                         ("told within", ONE, ONE), ("Even",), (b"even",), "even", ("always even",), ("always settled",)):
                self.refuse(one, 1, (("even",), wish, None))
            for size in NOT_ARM_SIZES:
                self.refuse(one, 0, [("within", size, ONE), None])
            for size in NOT_WEIGHTS:
                self.refuse(one, 1, [("even",), ("within", ONE, size), None])
                self.refuse(one, 2, [("even",), ("even",), ("told within", size)])
            for rows in NOT_SEQUENCES + ((), ((0, 1, 2, 3),), ((0, 1), (2,)), ((0, 1), (1, 2, 3)), ((0, 1), (2, 4)), ((0, 1), ()),
                                         ((0, 1), (2, 3), (4,)), ((True, 0), (2, 3))):
                self.refuse(one, 1, [("even",), ("sure total", rows)])
            for leg in NOT_WHOLE + (4, -1):
                self.refuse(one, 0, [("never shows", leg)])

    def test_castings(self):
        for word in ("always even", "always settled"):
            for rows in NOT_SEQUENCES + ((None,), ((("seat", 0), "i"),), ((("seat", 4), "a"),), ((("seat", 0), "a"), (("seat", 0), "b"))):
                self.refuse(on_scale(), 1, [("even",), (word, rows)])
            # A Plain has no arms.
            self.refuse(on_plain(), 1, [("even",), (word, ())])
            self.assertEqual(check_wishes(on_scale(), [(word, ())]), ((word, ()),))

    def test_the_first_one(self):
        self.refuse(on_plain(), 0, [("eve",), ("never shows", 9)])
        self.refuse(on_plain(), 2, [("even",), ("never shows", 3), ("never shows", 9), ("eve",)])


class Granting(Case):

    def test_settled_and_even(self):
        for wish, kind in ((("settled",), Unsettled), (("even",), Uneven)):
            self.assertIsNone(broken_wish(Weighing(even_scale(), OWN, ()), (wish,)))
            told = broken_wish(Weighing(plain_with(1, 2, 4, 2), OWN, ()), (("within", ratio(2), ONE), wish))
            self.assertEqual(told.index, 1)
            self.assertIs(type(told.why), kind)
        flat = Weighing(flat_scale(), OWN, LOADS)
        self.assertIsNone(broken_wish(flat, (("settled",),)))
        self.assertEqual(broken_wish(flat, (("settled",), ("even",))), Broken(1, Uneven(0, 1)))
        bent = plain_with(1, 2, 4, 2)
        self.assertEqual(broken_wish(Weighing(bent, OWN, ()), (("settled",),)), Broken(0, settled_of(bent)))

    def test_within(self):
        # Factors 1, 2, 3, 2.
        for factor, error, want in ((2, "1/2", None), (2, "49/100", 0), (1, 2, None), (1, "199/100", 2), ("3/2", 1, None),
                                    ("3/2", "1/2", 2), (4, 1, None), (4, "3/4", None), ("401/100", "3/4", 0)):
            told = broken_wish(on_plain(), [("within", ratio(factor), ratio(error))])
            self.assertEqual(told, None if want is None else Broken(0, want))

    def test_any_order(self):
        wish = (("any order",),)
        self.assertIsNone(broken_wish(on_plain(()), wish))
        self.assertEqual(broken_wish(on_plain(), wish), Broken(0, Tipping(1, (1,))))
        for own in (Own(ONE, place(5, 1)), Own(ZERO, place(9, 9))):
            told = broken_wish(Weighing(plain_with(1, 2, 3, 2), own, ()), wish)
            self.assertEqual(told, Broken(0, side_beyond(corners(), own.place)))
            self.assertIs(type(told.why), Side)
        self.assertIsNone(broken_wish(Weighing(plain_with(1, 2, 3, 2), Own(ZERO, corners()[0]), LOADS[:1]), wish))
        # The second example of the document: 15 at (2,1) will do, less not.
        far = ((ratio(30), place(5, 1)),)
        for weight, want in ((15, None), ("1499/100", Broken(0, Tipping(1, (0,))))):
            self.assertEqual(broken_wish(Weighing(plain_with(1, 2, 3, 2), Own(ratio(weight), place(2, 1)), far), wish), want)

    def test_sure_total(self):
        self.assertEqual(broken_wish(on_plain(), (PARTED,)), Broken(0, (0, 2)))
        self.assertIsNone(broken_wish(on_plain(), (("sure total", ((1, 3), (0,), (2,))),)))
        self.assertEqual(broken_wish(on_plain(), (("sure total", ((3, 1, 2), (0,))),)), Broken(0, (1, 2)))

    def test_never_shows(self):
        crossed = plain_with(1, 1, 3, 3, 2, places=LAYOUTS["crossed"])
        self.assertIsNone(broken_wish(Weighing(crossed, OWN, ()), (("never shows", 4),)))
        self.assertEqual(broken_wish(Weighing(crossed, OWN, ()), (("never shows", 0),)), Broken(0, Shows(place(0, 0), None, None)))
        other = weighing_after(Weighing(crossed, OWN, ()), (("factor", 4, ratio(4)),))
        self.assertEqual(broken_wish(other, (("never shows", 4),)), Broken(0, Shows(place(2, 2), ONE, ratio(3))))

    def test_castings(self):
        even = Weighing(even_scale(), OWN, ())
        for rows in ((), ((("out", 0), "a"),)):
            self.assertIsNone(broken_wish(even, (("always even", rows), ("always settled", rows))))
        told = broken_wish(even, (("always settled", ()), ("always even", SEATS)))
        self.assertEqual(told.index, 1)
        self.assertIsNone(always_even_fault(Casting(even.scale, SEATS), told.why))
        told = broken_wish(even, (("always settled", SEATS),))
        self.assertIs(type(told.why), FailsSettled)
        self.assertIsNone(always_settled_fault(Casting(even.scale, SEATS), told.why))

    def test_told_within(self):
        # The middle shows from 2 for each 1 (legs 1 and 3) to 5/2 (legs 0 and 2).
        one = Weighing(plain_with(1, 2, 4, 2), OWN, ((ratio(4), place(2, 1)),))
        for most, want in ((7, True), ("699/100", False), (0, False), (100, True)):
            told = broken_wish(one, (("told within", ratio(most)),))
            self.assertEqual(told, None if want else Broken(0, range_of(one.scale, one.borne)))
        tips = Weighing(one.scale, Own(ONE, place(2, 1)), ((ratio(4), place(5, 1)),))
        told = broken_wish(tips, (("told within", ratio(1000)),))
        self.assertIs(type(told.why), Tips)
        self.assertEqual(told.why, range_of(tips.scale, tips.borne))
        # What is borne lies within though the own weight alone does not.
        self.assertIsNone(broken_wish(Weighing(one.scale, Own(ONE, place(5, 1)), ((ratio(4), place(1, 1)),)), (("told within", ratio(9)),)))
        self.assertIsNone(broken_wish(Weighing(one.scale, Own(ZERO, place(9, 9)), ()), (("told within", ZERO),)))


class Together(Case):

    def why_is_right(self, one, wish, why):
        """Check that this is what shows that the wish is not granted."""
        scale, word = one.scale, wish[0]
        if word == "settled":
            self.assertIsNone(settled_fault(scale, why))
            self.assertEqual(why, settled_of(scale))
        elif word == "even":
            self.assertEqual(why, uneven_of(scale))
        elif word == "within":
            self.assertEqual(why, outside_error(scale, *wish[1:]))
            least, greatest = [fraction(part) for part in error_range(scale, wish[1])]
            self.assertTrue(-fraction(wish[2]) > least or greatest > fraction(wish[2]))
        elif word == "any order" and isinstance(why, Side):
            self.assertEqual(why, side_beyond(scale.places, one.own.place))
        elif word == "any order":
            self.assertIsNone(tipping_fault(scale.places, one.own, one.loads, why))
            self.assertEqual(why, any_order(scale.places, one.own, one.loads))
        elif word == "sure total":
            groups = Groups(scale, wish[1])
            self.assertEqual(why, sure_total(groups))
            number = groups.group_of(why[0])
            self.assertIsNone(total_told(groups, [ONE if own == number else ZERO for own in range(len(groups))]))
        elif word == "never shows":
            self.assertEqual(why, shows_at(scale, wish[1]))
        elif word == "always even":
            self.assertIsNone(always_even_fault(Casting(scale, wish[1]), why))
        elif word == "always settled":
            self.assertIsNone(always_settled_fault(Casting(scale, wish[1]), why))
        else:
            self.assertIsNone(range_fault(scale, one.borne, why))

    def test_by_the_words(self):
        lot = random.Random(2)
        kinds = {}
        for number in range(4):
            for name, one in weighings(number):
                wishes = tuple(some_wish(one, lot) for _ in range(lot.choice((1, 2, 3, 6))))
                told = self.takes_lists(broken_wish, one, wishes)
                right = [granted(one, wish) for wish in wishes]
                if all(right):
                    self.assertIsNone(told, name)
                    kinds[None] = kinds.get(None, 0) + 1
                    continue
                self.assertIs(type(told), Broken)
                self.assertEqual(told.index, right.index(False))
                self.why_is_right(one, check_wishes(one, wishes)[told.index], told.why)
                self.assertIsNone(broken_fault(one, wishes, told))
                kinds[type(told.why)] = kinds.get(type(told.why), 0) + 1
                for index, wish in enumerate(wishes):
                    fault = broken_fault(one, wishes, Broken(index, broken_wish(one, (wish,)) and broken_wish(one, (wish,)).why))
                    self.assertEqual(fault, "granted" if right[index] else None)
        self.assertEqual(set(kinds), {None, Unsettled, Uneven, int, Tipping, Side, tuple, Shows, FailsEven, FailsSettled, Range, Tips})

    def test_orders_of_laying(self):
        # With the wish "any order" all orders of laying lead through lots that hold.
        lot = random.Random(3)
        kinds = [0, 0]
        for _ in range(40):
            loads = [(ratio(lot.randint(0, 9)), place(lot.randint(-2, 6), lot.randint(-1, 3))) for _ in range(3)]
            one = Weighing(plain_with(1, 2, 3, 2), Own(ratio(lot.choice((5, 60))), place(2, 1)), loads)
            right = broken_wish(one, (("any order",),)) is None
            kinds[right] += 1
            self.assertEqual(right, orders_many(one.scale.places, one.own, one.loads) == 6)
            if right:
                self.assertEqual(some_order(one.scale.places, one.own, one.loads), (0, 1, 2))
        self.assertGreater(min(kinds), 5)

    def test_nothing_of_the_weighing_changes(self):
        one = on_scale()
        before = (one.scale, one.own, one.loads)
        broken_wish(one, OF_BOTH[:6])
        self.assertEqual((one.scale, one.own, one.loads), before)


class Judging(Case):

    # Each wish with what shows that `on_scale` or this bent Plain does not grant it.
    WHYS = (
        (("settled",), Unsettled(None, None, None, None)),
        (("even",), Uneven(None, None)),
        (("within", ONE, ZERO), 3),
        (("any order",), Tipping(None, None)),
        (PARTED, (3, 0)),
        (("never shows", 2), Shows(None, None, None)),
        (("told within", ZERO), Range(*[None] * 6)),
    )

    def bent(self):
        return Weighing(plain_with(1, 2, 4, 2), OWN, ((ratio(30), place(5, 1)), (ratio(60), place(1, 1))))

    def test_right_classes(self):
        things = [why for _, why in self.WHYS] + [FailsEven(None, None, None), FailsSettled(None, None), Side(None, None, None),
                                                  Tips(None), None, True, False, -1, 4, "why", (), [], (0,), (0, 1, 2), [0, 1],
                                                  (0, 4), (True, 0), (0, None), (-1, 0), ratio("1/2"), Broken(0, 0), OWN]
        for wish, right in self.WHYS:
            for thing in things:
                told = broken_fault(self.bent(), (wish,), Broken(0, thing))
                fits = thing is right or (wish == PARTED and thing == (1, 2))
                self.assertEqual(told, None if fits else "why", (wish, thing))
        self.assertIsNone(broken_fault(self.bent(), (PARTED,), Broken(0, (0, 0))))
        self.assertIsNone(broken_fault(self.bent(), (("within", ONE, ZERO),), Broken(0, 0)))
        self.assertEqual(broken_fault(self.bent(), (("within", ONE, ZERO),), Broken(0, 4)), "why")

    def test_castings(self):
        for word, right, wrong in (("always even", FailsEven(0, 0, 0), FailsSettled(0, 0)),
                                   ("always settled", FailsSettled(0, 0), FailsEven(0, 0, 0))):
            one = Weighing(even_scale(), OWN, ())
            self.assertIsNone(broken_fault(one, ((word, SEATS),), Broken(0, right)))
            for thing in (wrong, None, 0, (0, 1), Unsettled(0, 0, 0, 0)):
                self.assertEqual(broken_fault(one, ((word, SEATS),), Broken(0, thing)), "why")
            self.assertEqual(broken_fault(one, ((word, ()),), Broken(0, right)), "granted")

    def test_sides_and_tips(self):
        beyond = Weighing(plain_with(1, 2, 4, 2), Own(ONE, place(5, 1)), ())
        self.assertIsNone(broken_fault(beyond, (("any order",),), Broken(0, Side(0, 0, 0))))
        self.assertEqual(broken_fault(beyond, (("any order",),), Broken(0, Tipping(0, ()))), "why")
        self.assertEqual(broken_fault(self.bent(), (("any order",),), Broken(0, Side(0, 0, 0))), "why")
        self.assertIsNone(broken_fault(beyond, (("told within", ONE),), Broken(0, Tips(0))))
        self.assertEqual(broken_fault(beyond, (("told within", ONE),), Broken(0, Range(*[None] * 6))), "why")

    def test_words_in_order(self):
        wishes = (("within", ratio(2), ONE), ("even",), ("settled",))
        one = self.bent()
        for thing in (None, 0, True, "broken", (), [], (1, Uneven(0, 1)), Broken, Uneven(0, 1)):
            self.assertEqual(broken_fault(one, wishes, thing), "broken")
        for index in NOT_WHOLE + (3, -1):
            self.assertEqual(broken_fault(one, wishes, Broken(index, Uneven(0, 1))), "index")
            self.assertEqual(broken_fault(one, wishes, Broken(index, None)), "index")
        self.assertEqual(broken_fault(one, wishes, Broken(0, 0)), "granted")
        self.assertEqual(broken_fault(one, wishes, Broken(0, None)), "granted")
        self.assertEqual(broken_fault(one, wishes, Broken(1, 0)), "why")
        self.assertIsNone(broken_fault(one, wishes, Broken(1, Uneven(9, 9))))
        # Wishes before it are aside.
        self.assertIsNone(broken_fault(one, wishes, Broken(2, settled_of(one.scale))))


class Equality(Case):

    def test_equality(self):
        self.told_apart(Broken(0, 1), {"index": 1, "why": Uneven(0, 1)})
        self.alike(Broken(1, Uneven(0, 1)), Broken(1, Uneven(0, 1)))
        self.unlike(Broken(1, Uneven(0, 1)), Broken(1, Uneven(0, 2)))


if __name__ == "__main__":
    unittest.main()
