"""What several test files need: short ways to write ratios, places and scales, and checks."""

import unittest
from fractions import Fraction

from wherelaid.scales import Lever, Plain, Scale

SMALL = 10 ** 12
LARGE = 10 ** 150

# Things that are no whole numbers.
NOT_WHOLE = (None, True, False, "1", b"1", 1.0, (1, 1), [1], (), {})
# Things that are no ratios: lists, whole numbers, not in lowest terms, other bottoms, other kinds.
NOT_RATIOS = (
    None, True, 0, 1, "1", "1/2", 0.5, [1, 2], [0, 1], (), (1,), (1, 2, 3), (2, 4), (2, 2), (0, 2),
    (1, 0), (0, 0), (1, -2), (-1, -1), (True, 2), (1, True), (False, 1), (1.0, 2), (1, 2.0),
    ("1", 2), (1, None), ((1, 1), 1), {1: 2},
)
# Ratios just within and just beyond the bounds of small ratios.
SMALL_ENDS = ((SMALL, 1), (-SMALL, 1), (1, SMALL), (-1, SMALL), (SMALL, SMALL - 1))
NOT_SMALL = (
    (SMALL + 1, 1), (-SMALL - 1, 1), (1, SMALL + 1), (-1, SMALL + 1),
    (SMALL + 1, SMALL), (SMALL, SMALL + 1),
)
NOT_ARM_SIZES = NOT_RATIOS + NOT_SMALL + ((0, 1), (-1, 1), (-1, 2))
NOT_WEIGHTS = NOT_RATIOS + NOT_SMALL + ((-1, 1), (-1, 2))
# Things that are no sequences, although most of them have entries.
NOT_SEQUENCES = (None, True, 0, 2, "ab", b"ab", {0: 1, 1: 2}, {1, 2}, range(2), frozenset((1, 2)))
NOT_PLACES = NOT_SEQUENCES + (
    (), [], ((0, 1),), ((0, 1), (0, 1), (0, 1)), (0, 0), ([0, 1], (0, 1)), ((0, 1), [0, 1]),
    ((0, 2), (0, 1)), ((0, 1), (2, 2)), ((SMALL + 1, 1), (0, 1)), ((0, 1), (1, SMALL + 1)),
    ((0, 1), None), (True, (0, 1)),
)


def ratio(size):
    """The ratio of a whole number, a Fraction or a text such as "1/2"."""
    whole = Fraction(size)
    return (whole.numerator, whole.denominator)


def fraction(one):
    """The Fraction of a ratio."""
    return Fraction(one[0], one[1])


def place(x, y):
    return (ratio(x), ratio(y))


def deep_list(thing):
    """The thing with a list for each tuple in it, ratios left as they are."""
    if not isinstance(thing, (list, tuple)):
        return thing
    if isinstance(thing, tuple) and len(thing) == 2 and all(type(part) is int for part in thing):
        return thing
    return [deep_list(part) for part in thing]


def corners():
    """The places of four legs at the corners of a plate."""
    return (place(0, 0), place(4, 0), place(4, 2), place(0, 2))


def six_places():
    return corners() + (place(2, 1), place("1/2", "-3/4"))


def levers():
    """A beam, two levers on it and one more lever upon lever 1."""
    return (
        Lever(ratio(3)),
        Lever(ratio(5), 0, ratio("1/2")),
        Lever(ratio("7/2"), 0, ratio(2)),
        Lever(ratio(11), 1, ratio("2/3")),
    )


def chain(many, out="1", inward="1"):
    """A beam and more levers, of which each one pulls on the one before it."""
    below = [Lever(ratio(out), number, ratio(inward)) for number in range(many - 1)]
    return [Lever(ratio(out))] + below


LEGS = ((0, (1, 4)), (1, (3, 1)), (2, (5, 2)), (3, (13, 1)), (3, (1, 1)))


def scale():
    """A scale of four levers with five legs."""
    return Scale(levers(), LEGS, six_places()[:5])


def plain():
    """A Plain with four legs."""
    return Plain(corners(), (ratio(1), ratio("1/2"), ratio("2/3"), ratio(4)))


class Case(unittest.TestCase):
    """A test case that tells which error a call raises, with which attributes."""

    def refuses(self, error, told, call, *args, **named):
        """Check that the call raises just this error, with the told values of its attributes."""
        with self.assertRaises(error) as caught:
            call(*args, **named)
        self.assertIs(type(caught.exception), error)
        values = tuple(vars(caught.exception).values())
        self.assertEqual(values, told)
        self.assertEqual([type(value) for value in values], [type(value) for value in told])

    def unlike(self, one, other):
        """Check that == and != tell the two things apart, both ways."""
        self.assertFalse(one == other)
        self.assertFalse(other == one)
        self.assertTrue(one != other)
        self.assertTrue(other != one)

    def alike(self, one, other):
        """Check that == and != hold the two things for equal, both ways."""
        self.assertTrue(one == other)
        self.assertTrue(other == one)
        self.assertFalse(one != other)
        self.assertFalse(other != one)

    def tuples(self, thing):
        """Check that the thing and all in it are whole numbers or tuples."""
        if type(thing) is not int:
            self.assertIs(type(thing), tuple)
            for part in thing:
                self.tuples(part)
