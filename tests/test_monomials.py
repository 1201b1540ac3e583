"""Points 4.1 and 4.2: values of letters and monomials."""

import unittest
from fractions import Fraction
from itertools import permutations

from tests.helper import Case, NOT_RATIOS, NOT_SEQUENCES, fraction, ratio
from wherelaid.errors import BadMonomial, BadValues
from wherelaid.monomials import (
    Monomial, check_values, divide, multiply, power_in, size_at,
)

LETTERS = "abcdefgh"
NOT_LETTERS = (None, True, 0, "", "i", "A", "ab", " a", "a ", b"a", ("a",), ["a"], "\u0430", {"a"})
NOT_ABOVE_0 = NOT_RATIOS + ((0, 1), (-1, 1), (-2, 3))
NOT_COUPLES = NOT_SEQUENCES[:4] + (b"ab", {0: 1, 1: 2}, {"a", "b"}, (), ("a",), ["a"], ("a", ratio(1), 3))
NOT_POWERS = (None, True, False, 101, -101, 10 ** 30, 1.0, "1", ratio(1), (), [1])
VALUES = (("a", ratio("2/3")), ("b", ratio(5)), ("c", (1, 10 ** 99)), ("h", (10 ** 200, 3)))


def some():
    """Monomials of all kinds, with what they are made of."""
    return [Monomial(ratio(number), powers) for number, powers in (
        (1, ()), ("2/3", (("a", 1),)), (7, (("b", -2), ("a", 3))), ("1/9", (("h", 1), ("c", -1))),
        (5, (("a", -1), ("b", 2))), (4, (("d", 7), ("e", -6), ("f", 1), ("g", -1))),
        (2, tuple((letter, 1) for letter in LETTERS)))]


def all_values():
    return [(letter, ratio(Fraction(k + 2, k + 1))) for k, letter in enumerate(LETTERS)]


def size_of(monomial, values):
    told = {letter: fraction(size) for letter, size in values}
    size = fraction(monomial.number)
    for letter, power in monomial.powers:
        size *= told[letter] ** power
    return size


class Values(Case):

    def test_any_order(self):
        for values in permutations(VALUES):
            for letters in ("abch", "hcba"):
                for given in (values, list(values), [list(value) for value in values]):
                    found = check_values(list(letters), given)
                    self.assertEqual(found, VALUES)
                    self.assertIs(type(found), tuple)
                    self.assertTrue(all(type(value) is tuple for value in found))
                    self.assertEqual(check_values(tuple(letters), given), VALUES)
        self.assertEqual(check_values((), []), ())

    def test_many(self):
        for thing in NOT_SEQUENCES:
            self.refuses(BadValues, (0, "many"), check_values, ("a",), thing)
            self.refuses(BadValues, (0, "many"), check_values, (), thing)

    def test_each_word_with_its_index(self):
        for index in range(4):
            values = list(VALUES)
            for things, word in (
                    (NOT_COUPLES, "value"),
                    ([(letter, None) for letter in (*NOT_LETTERS, "d", "g")], "letter"),
                    ([(VALUES[index][0], size) for size in NOT_ABOVE_0], "size")):
                for thing in things:
                    values[index] = thing
                    self.refuses(BadValues, (index, word), check_values, "abch", values)
                    self.refuses(BadValues, (index, word), check_values, "abch", values[:index + 1])
            for earlier in range(index):
                values[index] = [VALUES[earlier][0], ratio(1)]
                self.refuses(BadValues, (index, "twice"), check_values, "abch", values)

    def test_missing(self):
        for index, letter in enumerate("abch"):
            values = [value for value in VALUES if value[0] != letter]
            for given in permutations(values):
                self.refuses(BadValues, (index, "missing"), check_values, "hcab", given)
        self.refuses(BadValues, (0, "missing"), check_values, ["b", "a"], [])
        self.refuses(BadValues, (1, "missing"), check_values, ["c", "b", "a"], [VALUES[0]])

    def test_first_fault(self):
        one = ("a", ratio(1))
        for values, index, word in (
                ([None, ("i", None)], 0, "value"), ([("i", None), None], 0, "letter"),
                ([one, ("a", None), None], 1, "size"), ([one, one, None], 1, "twice"),
                ([one, ("b", ratio(0)), one], 1, "size"), ([one, one], 1, "twice"),
                ([("d", ratio(1))], 0, "letter"), ([one, ("x", ratio(0))], 1, "letter")):
            self.refuses(BadValues, (index, word), check_values, ("a", "b"), values)

    def test_later_changes(self):
        values = [list(value) for value in VALUES]
        made = check_values("abch", values)
        values[0][1] = None
        values.pop()
        self.assertEqual(made, VALUES)


class Making(Case):

    def test_attributes(self):
        one = Monomial(ratio("2/3"), [("c", 2), ["a", -100], ("b", 0), ("h", 100)])
        self.assertEqual(one.number, ratio("2/3"))
        self.assertEqual(one.powers, (("a", -100), ("c", 2), ("h", 100)))
        self.tuples(one.number)
        self.assertTrue(all(type(couple) is tuple for couple in one.powers))
        self.assertEqual(Monomial(ratio(1)).powers, ())
        self.assertEqual(Monomial(ratio(1), []).powers, ())
        self.assertEqual(Monomial(ratio(1), [("a", 0)]).powers, ())
        self.assertEqual(Monomial((10 ** 250, 3)).number, (10 ** 250, 3))

    def test_number(self):
        for thing in NOT_ABOVE_0:
            self.refuses(BadMonomial, (0, "number"), Monomial, thing)
            self.refuses(BadMonomial, (0, "number"), Monomial, thing, None)

    def test_powers(self):
        for thing in NOT_SEQUENCES:
            self.refuses(BadMonomial, (0, "powers"), Monomial, ratio(1), thing)
        right = [(letter, k) for k, letter in enumerate(LETTERS)]
        for index in range(8):
            powers = list(right)
            for things, word in (
                    (NOT_COUPLES, "power"), ([(letter, None) for letter in NOT_LETTERS], "letter"),
                    ([(LETTERS[index], power) for power in NOT_POWERS], "whole")):
                for thing in things:
                    powers[index] = thing
                    self.refuses(BadMonomial, (index, word), Monomial, ratio(1), powers)
            for earlier in range(index):
                for power in (0, 5):
                    powers[index] = (LETTERS[earlier], power)
                    self.refuses(BadMonomial, (index, "twice"), Monomial, ratio(1), powers)

    def test_first_fault(self):
        for powers, index, word in (
                ([None, ("i", None)], 0, "power"), ([("i", None), None], 0, "letter"),
                ([("a", 0), ("a", None), None], 1, "whole"), ([("a", 0), ("a", 0), None], 1, "twice"),
                ([("a", 1), ("b", 200), ("a", 1)], 1, "whole")):
            self.refuses(BadMonomial, (index, word), Monomial, ratio(1), powers)

    def test_later_changes(self):
        powers = [["a", 1], ["b", 2]]
        one = Monomial(ratio(1), powers)
        powers[0][1] = 9
        powers.pop()
        self.assertEqual(one.powers, (("a", 1), ("b", 2)))

    def test_equality(self):
        self.alike(Monomial(ratio(3), [("b", 1), ("a", 2)]), Monomial(ratio(3), (["a", 2], ("b", 1), ("c", 0))))
        for k, one in enumerate(some()):
            for j, other in enumerate(some()):
                (self.alike if k == j else self.unlike)(one, other)
        one = Monomial(ratio(3), [("a", 2)])
        for other in (Monomial(ratio(4), [("a", 2)]), Monomial(ratio(3), [("a", 3)]),
                      Monomial(ratio(3), [("b", 2)]), Monomial(ratio(3)), None, ratio(3), "a"):
            self.unlike(one, other)


class Reckoning(Case):

    def test_power_in(self):
        one = Monomial(ratio(1), [("c", -4), ("a", 3), ("b", 0)])
        self.assertEqual([power_in(one, letter) for letter in LETTERS], [3, 0, -4, 0, 0, 0, 0, 0])

    def test_size_at(self):
        told = dict(all_values())
        for one in some():
            values = [(letter, told[letter]) for letter, _ in one.powers]
            for given in (values, values[::-1], tuple(list(value) for value in values)):
                self.assertEqual(fraction(size_at(one, given)), size_of(one, values))
                self.tuples(size_at(one, given))
        self.assertEqual(size_at(Monomial(ratio("2/3"), [("a", 2), ("b", -1)]),
                                 [("b", ratio(4)), ("a", ratio(3))]), ratio("3/2"))
        self.assertEqual(size_at(Monomial(ratio(5), [("a", 100)]), [("a", ratio("1/2"))]), (5, 2 ** 100))
        self.assertEqual(size_at(Monomial(ratio(5), [("a", -100)]), [("a", ratio("2/3"))]),
                         ratio(5 * Fraction(3, 2) ** 100))

    def test_wrong_values(self):
        one = Monomial(ratio(1), [("c", 1), ("a", 2), ("b", 0)])
        a, c = ("a", ratio(1)), ("c", ratio(2))
        for values, index, word in (
                (None, 0, "many"), ([a, None], 1, "value"), ([a, ("b", ratio(1))], 1, "letter"),
                ([c, ("a", ratio(0))], 1, "size"), ([c, c], 1, "twice"), ([c], 0, "missing"),
                ([a], 1, "missing"), ([a, c, ("d", ratio(1))], 2, "letter")):
            self.refuses(BadValues, (index, word), size_at, one, values)
        self.refuses(BadValues, (0, "letter"), size_at, Monomial(ratio(1)), [a])
        self.assertEqual(size_at(Monomial(ratio(7)), []), ratio(7))

    def test_product_and_quotient(self):
        for one in some():
            for other in some():
                for call, sign in ((multiply, 1), (divide, -1)):
                    made = call(one, other)
                    self.assertIs(type(made), Monomial)
                    self.assertEqual(fraction(made.number),
                                     fraction(one.number) * fraction(other.number) ** sign)
                    for letter in LETTERS:
                        power = power_in(one, letter) + sign * power_in(other, letter)
                        self.assertEqual(power_in(made, letter), power)
                    self.assertTrue(all(power for _, power in made.powers))
                    self.assertEqual(size_of(made, all_values()),
                                     size_of(one, all_values()) * size_of(other, all_values()) ** sign)
                self.alike(divide(multiply(one, other), other), one)
            self.alike(divide(one, one), Monomial(ratio(1)))

    def test_powers_up_to_100(self):
        one, other = Monomial(ratio(1), [("a", 60)]), Monomial(ratio(1), [("a", 40)])
        self.assertEqual(multiply(one, other).powers, (("a", 100),))
        self.assertEqual(divide(one, Monomial(ratio(1), [("a", -40)])).powers, (("a", 100),))

    def test_nothing_is_changed(self):
        one, other = some()[2], some()[4]
        multiply(one, other)
        divide(one, other)
        self.alike(one, some()[2])
        self.alike(other, some()[4])


if __name__ == "__main__":
    unittest.main()
