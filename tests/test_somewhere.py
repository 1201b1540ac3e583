"""Points 4.7 and 4.8: castings that are even at some values."""

import random
import time
import unittest
from fractions import Fraction
from math import prod

from tests.helper import (
    Case, NOT_SEQUENCES, NOT_WHOLE, castings, chain, corners, exponents, factors_with, fraction,
    ratio, scales,
)
from wherelaid.castings import Casting
from wherelaid.powers import power_of, raised, root_of_product
from wherelaid.scales import Lever, Scale
from wherelaid.somewhere import NeverEven, even_somewhere, somewhere_fault


def factored(number):
    """The exponents of the primes of a whole number that has no two great ones."""
    found = {}
    prime = 2
    while prime * prime <= number:
        while number % prime == 0:
            found[prime] = found.get(prime, 0) + 1
            number //= prime
        prime += 1
    if number > 1:
        found[number] = found.get(number, 0) + 1
    return found


def seats(*sizes, letters=None):
    """A casting of legs on the beam alone, with these seats, of which some bear letters."""
    rows = [(("seat", leg), letter) for leg, letter in enumerate(letters or "") if letter != " "]
    legs = [(0, ratio(size)) for size in sizes]
    return Casting(Scale(chain(1), legs, corners()[:len(sizes)]), rows)


def powered(sizes, powers):
    """A casting in which leg k has the factor sizes[k] * a ** powers[k], powers from 0 to 3."""
    one = ratio(1)
    made = [Lever(one)] + [Lever(one, number, one) for number in range(3)]
    legs = [(power, ratio(size)) for size, power in zip(sizes, powers)]
    rows = [(("inward", lever), "a") for lever in (1, 2, 3)]
    return Casting(Scale(made, legs, corners()[:len(sizes)]), rows)


class Somewhere(Case):

    def check(self, one, primes=True):
        """Check by the words of the document what is returned; return it."""
        told = even_somewhere(one)
        many = len(one.scale)
        if isinstance(told, NeverEven):
            self.tuples(told.numbers)
            self.assertEqual((len(told.numbers), sum(told.numbers)), (many, 0))
            self.assertTrue(told.power == 0 or told.power >= 2)
            legs = [exponents(one, leg) for leg in range(many)]
            for letter in one.letters:
                whole = sum(number * leg[0][letter] for number, leg in zip(told.numbers, legs))
                self.assertEqual(whole if told.power == 0 else whole % told.power, 0)
            size = prod([leg[1] ** number for number, leg in zip(told.numbers, legs)], start=Fraction(1))
            if told.power == 0:
                self.assertNotEqual(size, 1)
            elif primes:
                powers = [*factored(size.numerator).values(), *factored(size.denominator).values()]
                self.assertTrue(any(power % told.power for power in powers))
        else:
            self.assertIs(type(told), tuple)
            self.tuples(tuple(size for _, size in told))
            self.assertEqual(tuple(letter for letter, _ in told), one.letters)
            self.assertTrue(all(size[0] > 0 and ratio(fraction(size)) == size for _, size in told))
            self.assertEqual(len(set(factors_with(one, dict(told)))), 1)
        self.assertIsNone(somewhere_fault(one, told))
        return told

    def test_all_kinds_of_castings(self):
        kinds = [type(self.check(one, primes=not name.startswith("great"))) for name, one in castings(2, 20)]
        self.assertIn(tuple, kinds)
        self.assertIn(NeverEven, kinds)

    def test_no_letter(self):
        self.assertEqual(even_somewhere(seats(2, 2, 2)), ())
        told = self.check(seats(2, 2, 3))
        self.assertEqual(told.power, 0)

    def test_one_letter(self):
        self.assertEqual(even_somewhere(seats(2, 5, letters="a ")), (("a", ratio(5)),))
        self.assertEqual(even_somewhere(seats(2, 5, 5, letters="g  ")), (("g", ratio(5)),))
        self.assertEqual(self.check(seats(2, 5, 6, letters="a  ")).power, 0)
        self.assertIs(type(self.check(seats(2, 5, letters="aa"))), tuple)

    def test_roots(self):
        for sizes, powers, size in (
                ((4, 1), (0, 2), 2), ((8, 1), (0, 3), 2), ((1, 27), (3, 0), 3), ((1, 32), (1, 3), None),
                ((2, 1), (0, 2), None), ((4, 1), (0, 3), None), ((1, Fraction(4, 9)), (2, 0), "2/3"),
                ((Fraction(4, 9), 1, 1), (0, 2, 2), "2/3"), ((4, 2, 1), (0, 1, 2), 2),
                ((4, 2, 1), (2, 1, 0), "1/2"), ((9, 1, Fraction(1, 3)), (0, 2, 3), 3),
                ((8, 4, 1, 1), (0, 1, 2, 3), None), ((Fraction(1, 10 ** 12), 10 ** 12), (3, 1), 10 ** 12)):
            told = self.check(powered(sizes, powers))
            if size is None:
                self.assertIs(type(told), NeverEven)
            else:
                self.assertEqual(told, (("a", ratio(size)),))
        self.assertEqual(self.check(powered((2, 1), (0, 2))).power, 2)
        self.assertEqual(self.check(powered((4, 1), (0, 3))).power, 3)
        self.assertEqual(self.check(powered((8, 4, 1), (0, 1, 2))).power, 0)

    def test_roots_of_several_letters(self):
        # Only all equations together show it: a * b = 2 and a = b.
        one = ratio(1)
        made = Scale([Lever(one), Lever(one, 0, one), Lever(one, 1, one)],
                     [(0, ratio(2)), (2, one), (1, one), (0, one)], corners())
        casting = Casting(made, [(("inward", 1), "a"), (("inward", 2), "b"), (("seat", 2), "b"), (("seat", 3), "c")])
        told = self.check(casting)
        self.assertEqual(dict(told)["c"], ratio(2))
        equal = Casting(made, [(("inward", 1), "a"), (("inward", 2), "a")])
        self.assertEqual(self.check(equal).power % 2, 0)

    def test_random_small_equations(self):
        lot = random.Random(12)
        kinds = {}
        for _ in range(200):
            one = ratio(1)
            many = lot.choice((2, 2, 3, 4, 6))
            levers = [Lever(one)] + [
                Lever(ratio(2 ** lot.randint(0, 2)), lot.randint(0, k), one) for k in range(5)]
            places = [((k, 1), (k * k, 1)) for k in range(many)]
            made = Scale(levers, [(lot.randint(0, 5), ratio(lot.choice((1, 2, 4, 9)))) for _ in range(many)], places)
            arms = [("inward", k) for k in range(1, 6)] + [("out", k) for k in range(6)]
            chosen = lot.sample(arms, lot.randint(2, 8))
            told = self.check(Casting(made, [(arm, lot.choice("abc")) for arm in chosen]))
            kind = "values" if isinstance(told, tuple) else min(told.power, 2)
            kinds[kind] = kinds.get(kind, 0) + 1
        self.assertTrue(all(kinds.get(kind, 0) > 3 for kind in ("values", 0, 2)), kinds)

    def test_values_put_in_are_found(self):
        # Made even at some values: so there are values.
        lot = random.Random(7)
        for name, one in scales():
            if name not in ("great",):
                values = {letter: ratio(Fraction(lot.randint(1, 9), lot.randint(1, 9))) for letter in "ab"}
                rows = [(("inward", k), "ab"[k % 2]) for k in range(1, len(one.levers))]
                factors = factors_with(Casting(one, rows), values) if rows else []
                if rows and len({letter for _, letter in rows}) == 2:
                    legs = [(lever, ratio(fraction(seat) / size))
                            for (lever, seat), size in zip(one.legs, factors)]
                    told = self.check(Casting(Scale(one.levers, legs, one.places), rows))
                    self.assertIs(type(told), tuple, name)


class Judging(Case):

    def test_values(self):
        one = powered((4, 1), (0, 2))
        self.assertIsNone(somewhere_fault(one, (("a", ratio(2)),)))
        self.assertIsNone(somewhere_fault(one, [["a", ratio(2)]]))
        for thing in NOT_SEQUENCES + (
                (), (("b", ratio(2)),), (("a", ratio(2)), ("a", ratio(2))), (("a", 2),), ("a", ratio(2)),
                (("a", (0, 1)),), (("a", (-2, 1)),), NeverEven, (("a", ratio(2)), None)):
            self.assertEqual(somewhere_fault(one, thing), "values")
        for size in (1, 4, "1/2", 3):
            self.assertEqual(somewhere_fault(one, (("a", ratio(size)),)), "unlike")
        self.assertEqual(somewhere_fault(seats(2, 3), ()), "unlike")
        self.assertIsNone(somewhere_fault(seats(2, 2), ()))
        great = powered((Fraction(10 ** 12, 10 ** 12 - 1), 1), (0, 1))
        self.assertIsNone(somewhere_fault(great, (("a", (10 ** 12, 10 ** 12 - 1)),)))

    def test_certificates(self):
        one = powered((2, 1), (0, 2))
        for numbers, power in (((1, -1), 2), ((-1, 1), 2), ([3, -3], 2), ((5, -5), 10), ((2, -2), 4)):
            self.assertIsNone(somewhere_fault(one, NeverEven(numbers, power)))
        self.assertIsNone(somewhere_fault(seats(2, 3), NeverEven((1, -1), 0)))
        self.assertIsNone(somewhere_fault(seats(2, 3), NeverEven((1, -1), 2)))
        self.assertIsNone(somewhere_fault(seats(2, 3), NeverEven((-1000, 1000), 0)))
        self.assertIsNone(somewhere_fault(seats(2, 3), NeverEven((-3, 3), 1000)))

    def test_numbers(self):
        one = powered((2, 1), (0, 2))
        for thing in NOT_SEQUENCES + (
                (), (1,), (1, -1, 0), (1, 1), (1, 0), (True, -1), (1, (-1, 1)), ("1", -1), (None, None)):
            for power in (2, 0, 1, None):
                self.assertEqual(somewhere_fault(one, NeverEven(thing, power)), "numbers")

    def test_powers(self):
        one = powered((2, 1), (0, 2))
        for power in NOT_WHOLE + (1, -1, -2):
            for numbers in ((1, -1), (0, 0)):
                self.assertEqual(somewhere_fault(one, NeverEven(numbers, power)), "power")

    def test_letters(self):
        one = powered((2, 1), (0, 2))
        for numbers, power in (((1, -1), 0), ((1, -1), 3), ((1, -1), 4), ((2, -2), 3), ((2, -2), 8)):
            self.assertEqual(somewhere_fault(one, NeverEven(numbers, power)), "letters")
        two = Casting(Scale(chain(2), [(0, ratio(2)), (1, ratio(1))], corners()[:2]),
                      [(("seat", 0), "c"), (("seat", 1), "d"), (("inward", 1), "d")])
        self.assertEqual(somewhere_fault(two, NeverEven((2, -2), 4)), "letters")
        self.assertEqual(somewhere_fault(two, NeverEven((4, -4), 4)), "root")

    def test_roots(self):
        one = powered((2, 1), (0, 2))
        for numbers, power in (((2, -2), 2), ((0, 0), 2), ((0, 0), 0), ((4, -4), 4), ((10, -10), 5)):
            self.assertEqual(somewhere_fault(one, NeverEven(numbers, power)), "root")
        self.assertEqual(somewhere_fault(seats(2, 2), NeverEven((1, -1), 0)), "root")
        self.assertEqual(somewhere_fault(seats(4, 9), NeverEven((1, -1), 2)), "root")
        self.assertEqual(somewhere_fault(seats(4, 9), NeverEven((-1, 1), 2)), "root")
        # The top is a power, the bottom is not; and the other way round.
        self.assertIsNone(somewhere_fault(seats(4, 3), NeverEven((1, -1), 2)))
        self.assertIsNone(somewhere_fault(seats(4, 3), NeverEven((-1, 1), 2)))
        self.assertEqual(somewhere_fault(seats(2, 3), NeverEven((-1000, 1000), 500)), "root")

    def test_exactly_one_of_both(self):
        # A certificate is never right where values are.
        lot = random.Random(3)
        for name, one in castings(14, 10):
            if not name.startswith("great") and isinstance(even_somewhere(one), tuple):
                for _ in range(30):
                    numbers = [lot.randint(-3, 3) for _ in range(len(one.scale) - 1)]
                    told = NeverEven((-sum(numbers), *numbers), lot.choice((0, 2, 3, 4)))
                    self.assertIn(somewhere_fault(one, told), ("letters", "root"))

    def test_equality(self):
        self.told_apart(NeverEven((1, -1), 2), {"numbers": (2, -2), "power": 0})


class Powers(Case):

    def test_powers(self):
        for number in (0, 1, 2, 3, 10, 10 ** 12 + 1, -2, -3):
            for power in (0, 1, 2, 3, 7, 64, 65):
                self.assertEqual(power_of(number, power), number ** power)
        for size in ("1", "2/3", 7, "1/9"):
            for power in range(-5, 6):
                self.assertEqual(raised(ratio(size), power), ratio(Fraction(size) ** power))

    def test_roots(self):
        for size in ("1", "2/3", 7, "1/9", Fraction(10 ** 40 + 1, 10 ** 41), 2 ** 64, 2 ** 64 - 1):
            for degree in (1, 2, 3, 5, 12, 100):
                power = ratio(Fraction(size) ** degree)
                self.assertEqual(root_of_product([power], [1], degree), ratio(size))
                self.assertEqual(root_of_product([power], [-1], degree), ratio(1 / Fraction(size)))
                self.assertEqual(root_of_product([ratio(size)], [-degree], degree), ratio(1 / Fraction(size)))
                if degree > 1:
                    self.assertIsNone(root_of_product([(power[0] + 1, 1)], [1], degree))
                    self.assertIsNone(root_of_product([(1, power[0] + 1)], [1], degree))
                    self.assertIsNone(root_of_product([(power[0] ** 2 * 2, 1)], [1], 2 * degree))
        self.assertEqual(root_of_product([(4, 9)], [1], 2), (2, 3))
        self.assertIsNone(root_of_product([(4, 3)], [1], 2))
        self.assertIsNone(root_of_product([(3, 4)], [1], 2))
        self.assertEqual(root_of_product([], [], 2), (1, 1))
        self.assertEqual(root_of_product([(6, 1), (10, 3), (5, 9)], [1, -1, 1], 0), (1, 1))
        self.assertIsNone(root_of_product([(6, 1), (10, 3)], [1, 1], 0))

    def test_roots_of_products(self):
        lot = random.Random(20)
        kinds = [0, 0]
        for _ in range(300):
            sizes = [Fraction(lot.choice((1, 2, 4, 6, 8, 12, 27, 36)), lot.choice((1, 3, 9, 4, 5))) for _ in range(3)]
            numbers = [lot.randint(-3, 3) for _ in sizes]
            degree = lot.choice((0, 1, 2, 3, 4, 6))
            found = root_of_product([ratio(size) for size in sizes], numbers, degree)
            whole = prod([size ** number for size, number in zip(sizes, numbers)], start=Fraction(1))
            primes = [*factored(whole.numerator).values(), *factored(whole.denominator).values()]
            kinds[found is None] += 1
            if degree == 0:
                self.assertEqual(found, (1, 1) if whole == 1 else None)
            elif any(power % degree for power in primes):
                self.assertIsNone(found)
            else:
                self.assertEqual(fraction(found) ** degree, whole)
                self.assertEqual(found, ratio(fraction(found)))
        self.assertTrue(min(kinds) > 50)

    def test_great_powers_are_judged_at_once(self):
        made = powered((Fraction(10 ** 12 - 11, 10 ** 12), Fraction(10 ** 12, 10 ** 12 - 39)), (0, 0))
        started = time.process_time()
        for numbers, power in (((1000, -1000), 7), ((999, -999), 2), ((-1000, 1000), 999)):
            self.assertIsNone(somewhere_fault(made, NeverEven(numbers, power)))
        self.assertEqual(somewhere_fault(made, NeverEven((1000, -1000), 2)), "root")
        self.assertLess(time.process_time() - started, 2)


if __name__ == "__main__":
    unittest.main()
