"""Points 4.3 and 4.4: castings."""

import unittest
from fractions import Fraction

from tests.helper import (
    Case, NOT_ARM_SIZES, NOT_SEQUENCES, SMALL, SMALL_ENDS, castings, exponents, factors_with,
    fraction, ratio, scale, some_values,
)
from wherelaid.arms import arms_of
from wherelaid.castings import (
    Casting, alike_legs, common_letters, fix_letter, monomial_of, scale_at,
)
from wherelaid.errors import BadCasting, BadSize, BadValues, NoLeg, NoLetter
from wherelaid.monomials import Monomial, size_at

SEAT, OUT, INWARD = ("seat", 0), ("out", 0), ("inward", 1)


def sample():
    """Letters on the beam's out arm, on two inward arms and on two seats."""
    return Casting(scale(), [
        (("seat", 1), "b"), (("inward", 3), "a"), (("out", 0), "c"), (("inward", 1), "a"),
        (("seat", 4), "b")])


class Castings(Case):

    def test_rows_and_letters(self):
        one = sample()
        self.assertEqual(one.rows, (
            (("out", 0), "c"), (("inward", 1), "a"), (("inward", 3), "a"), (("seat", 1), "b"),
            (("seat", 4), "b")))
        self.assertEqual(one.letters, ("a", "b", "c"))
        self.assertEqual(one.scale, scale())
        self.assertEqual((Casting(scale(), ()).rows, Casting(scale(), []).letters), ((), ()))
        for _, made in castings():
            order = arms_of(made.scale)
            self.assertEqual([order.index(arm) for arm, _ in made.rows],
                             sorted(order.index(arm) for arm, _ in made.rows))
            self.assertEqual(made.letters, tuple(sorted({letter for _, letter in made.rows})))
            self.assertEqual(Casting(made.scale, made.rows[::-1]), made)

    def test_all_eight_letters(self):
        arms = arms_of(scale())[:8]
        one = Casting(scale(), list(zip(arms, "hgfedcba")))
        self.assertEqual(one.letters, tuple("abcdefgh"))
        self.assertEqual(one.rows, tuple(zip(arms, "hgfedcba")))

    def test_lists_are_not_kept(self):
        rows = [[["seat", 0], "a"], [["out", 0], "b"]]
        one = Casting(scale(), rows)
        rows[0][0][0] = "out"
        rows[1][1] = "c"
        rows.clear()
        self.assertEqual(one.rows, ((("out", 0), "b"), (("seat", 0), "a")))

    def test_refusals(self):
        for thing in NOT_SEQUENCES:
            self.refuses(BadCasting, (0, "rows"), Casting, scale(), thing)
        good = (SEAT, "a")
        for word, rows in (
                ("row", (None, 0, "ab", (), (SEAT,), (SEAT, "a", "b"), {0: SEAT, 1: "a"})),
                ("arm", ((None, "a"), (("seat", 5), "a"), (("seat", True), "a"), (("in", 1), "a"),
                         (("inward", 0), "a"), (("out", 4), "a"), (("out", -1), "a"), ("so", "a"),
                         (("seat",), "a"), (("seat", 0, 0), "a"), (["seat"], None), (True, True))),
                ("letter", ((OUT, "i"), (OUT, "A"), (OUT, ""), (OUT, "ab"), (OUT, None), (OUT, 0),
                            (OUT, True), (OUT, ("a",)), (OUT, ["a"]), (SEAT, None))),
                ("twice", ((SEAT, "a"), (SEAT, "b"), (["seat", 0], "h")))):
            for row in rows:
                self.refuses(BadCasting, (1, word), Casting, scale(), [good, row])
                self.refuses(BadCasting, (1, word), Casting, scale(), (good, row, None))
        self.refuses(BadCasting, (0, "row"), Casting, scale(), [None, (SEAT, "z")])
        self.refuses(BadCasting, (2, "twice"), Casting, scale(), [good, (OUT, "a"), (SEAT, "a"), 0])
        self.refuses(BadCasting, (1, "letter"), Casting, scale(), [good, (SEAT, "z")])
        self.refuses(BadCasting, (0, "arm"), Casting, scale(), [(INWARD[::-1], "z"), good, good])

    def test_equality(self):
        one = sample()
        other = scale_at(one, [("a", ratio(2)), ("b", ratio(3)), ("c", ratio(5))])
        self.told_apart(one, {"scale": other, "rows": one.rows[1:]})
        self.unlike(one, Casting(one.scale, one.rows[:-1] + ((("seat", 4), "c"),)))
        self.unlike(Casting(scale(), ()), scale())


class Monomials(Case):

    def test_sample(self):
        one = sample()
        self.assertEqual(monomial_of(one, 0), Monomial(ratio("1/4"), [("c", -1)]))
        self.assertEqual(monomial_of(one, 1), Monomial(ratio("1/5"), [("a", 1), ("b", 1), ("c", -1)]))
        self.assertEqual(monomial_of(one, 3),
                         Monomial(ratio(Fraction(13, 55)), [("a", 2), ("c", -1)]))

    def test_powers_that_meet(self):
        # One letter for all arms: seat and inward arms against out arms.
        one = Casting(scale(), [(arm, "h") for arm in arms_of(scale())])
        self.assertEqual([monomial_of(one, leg) for leg in range(5)], [Monomial(ratio(1))] * 5)
        two = Casting(scale(), [(arm, "h") for arm in arms_of(scale()) if arm[0] == "out"])
        self.assertEqual(monomial_of(two, 4).powers, (("h", -3),))
        three = Casting(scale(), [(("out", 0), "a"), (("inward", 1), "a")])
        self.assertEqual(monomial_of(three, 1).powers, ())
        self.assertEqual(monomial_of(three, 0).powers, (("a", -1),))

    def test_by_going_up_the_levers(self):
        for _, one in castings():
            for leg in range(len(one.scale)):
                powers, number = exponents(one, leg)
                found = monomial_of(one, leg)
                self.assertEqual(fraction(found.number), number)
                self.assertEqual(found.powers, tuple((a, b) for a, b in powers.items() if b))
                self.tuples(found.number)

    def test_sizes_are_the_factors(self):
        for name, one in castings():
            for values in some_values(one, name):
                made = scale_at(one, values)
                self.assertEqual([fraction(size) for size in made.factors],
                                 factors_with(one, dict(values)))
                for leg in range(len(one.scale)):
                    monomial = monomial_of(one, leg)
                    own = [value for value in values if value[0] in dict(monomial.powers)]
                    self.assertEqual(size_at(monomial, own), made.factors[leg])

    def test_no_leg(self):
        for leg in (-1, 5, None, True, "0", (0,)):
            self.refuses(NoLeg, (leg,), monomial_of, sample(), leg)


class Fixing(Case):

    def test_scale_at(self):
        one = sample()
        values = (("c", ratio(7)), ("a", ratio("1/9")), ("b", ratio(SMALL)))
        made = self.takes_lists(scale_at, one, values)
        self.assertEqual(made.levers[0].out, ratio(7))
        self.assertEqual((made.levers[1].inward, made.levers[3].inward), (ratio("1/9"),) * 2)
        self.assertEqual((made.legs[1], made.legs[4]), ((1, ratio(SMALL)), (3, ratio(SMALL))))
        self.assertEqual((made.legs[0], made.levers[2]), (scale().legs[0], scale().levers[2]))
        self.assertEqual(scale_at(Casting(scale(), ()), ()), scale())

    def test_scale_at_the_ends(self):
        one = Casting(scale(), [(SEAT, "e")])
        for size in SMALL_ENDS:
            if size[0] > 0:
                self.assertEqual(scale_at(one, [("e", size)]).legs[0][1], size)

    def test_refused_values(self):
        one = sample()
        good = [("a", ratio(1)), ("b", ratio(2)), ("c", ratio(3))]
        for thing in NOT_SEQUENCES:
            self.refuses(BadValues, (0, "many"), scale_at, one, thing)
        for values, told in (
                (good[:2], (2, "missing")), (good[1:], (0, "missing")), ((), (0, "missing")),
                (good + [("d", ratio(1))], (3, "letter")), (good + [good[0]], (3, "twice")),
                ([good[0], None, good[2]], (1, "value")), ([("a", (0, 1))] + good[1:], (0, "size")),
                ([("a", 1)] + good[1:], (0, "size"))):
            self.refuses(BadValues, told, scale_at, one, values)

    def test_values_that_are_no_arm_sizes(self):
        one = sample()
        great, tiny = (SMALL + 1, 1), (1, SMALL + 1)
        for values, told in (
                ([("c", ratio(1)), ("b", great), ("a", ratio(1))], (1, "size")),
                ([("c", tiny), ("b", ratio(1)), ("a", ratio(1))], (2, "size")),
                ([("c", tiny), ("b", great), ("a", ratio(1))], (1, "size")),
                ([("c", tiny), ("b", great), ("a", great)], (0, "size")),
                # What check_values refuses comes first.
                ([("c", great), ("b", great)], (0, "missing")),
                ([("a", great), ("b", great), ("c", (0, 1))], (2, "size"))):
            self.refuses(BadValues, told, scale_at, one, values)

    def test_fix_letter(self):
        one = sample()
        fixed = fix_letter(one, "a", ratio(4))
        self.assertEqual(fixed.letters, ("b", "c"))
        self.assertEqual(fixed.rows, tuple(row for row in one.rows if row[1] != "a"))
        self.assertEqual((fixed.scale.levers[1].inward, fixed.scale.levers[3].inward), (ratio(4),) * 2)
        self.assertEqual(fixed.scale.legs, scale().legs)
        for name, made in castings():
            for values in some_values(made, name, 1):
                left = made
                for letter, size in values:
                    left = fix_letter(left, letter, size)
                self.assertEqual((left.letters, left.scale), ((), scale_at(made, values)))

    def test_fix_letter_refusals(self):
        for letter in ("d", "h", "i", "", "A", None, 0, True, ("a",), ["a"], "ab"):
            self.refuses(NoLetter, (letter,), fix_letter, sample(), letter, ratio(1))
            self.refuses(NoLetter, (letter,), fix_letter, sample(), letter, None)
        for size in NOT_ARM_SIZES:
            self.refuses(BadSize, (size,), fix_letter, sample(), "a", size)
        self.refuses(NoLetter, ("a",), fix_letter, Casting(scale(), ()), "a", ratio(1))


class Groups(Case):

    def test_common_letters(self):
        self.assertEqual(common_letters(sample()), ("c",))
        # A power of 0 in all monomials is common, too: out 0 and inward 1 meet on leg 1.
        met = Casting(scale(), [(("out", 0), "a"), (("inward", 1), "a"), (("inward", 2), "a"),
                                (("seat", 0), "a")])
        self.assertEqual(common_letters(met), ("a",))
        for _, one in castings():
            want = []
            for letter in one.letters:
                if len({exponents(one, leg)[0][letter] for leg in range(len(one.scale))}) == 1:
                    want.append(letter)
            self.assertEqual(common_letters(one), tuple(want))

    def test_alike_legs(self):
        self.assertEqual(alike_legs(sample()), ((0,), (1,), (2,), (3,), (4,)))
        one = Casting(scale(), [(("seat", leg), "ab"[leg % 2]) for leg in range(5)])
        self.assertEqual(alike_legs(one), ((0,), (1,), (2,), (3,), (4,)))
        two = Casting(scale(), [(("seat", 3), "a"), (("seat", 4), "a"), (("out", 0), "b")])
        self.assertEqual(alike_legs(two), ((0,), (1,), (2,), (3, 4)))
        for _, made in castings():
            told = [exponents(made, leg) for leg in range(len(made.scale))]
            lots = alike_legs(made)
            self.tuples(lots)
            self.assertEqual(sorted(leg for lot in lots for leg in lot), list(range(len(told))))
            self.assertEqual(list(lots), sorted(lots))
            for lot in lots:
                same = tuple(leg for leg in range(len(told)) if told[leg] == told[lot[0]])
                self.assertEqual(lot, same)

    def test_alike_factors_exactly_within_a_lot(self):
        for name, made in castings(3, 6):
            rows = list(some_values(made, name, 6))
            seen = [scale_at(made, values).factors for values in rows]
            for lot in alike_legs(made):
                for leg in lot:
                    self.assertTrue(all(factors[leg] == factors[lot[0]] for factors in seen))


if __name__ == "__main__":
    unittest.main()
