"""What several test files need: short ways to write ratios, places and scales, and checks."""

import copy
import random
import unittest
from fractions import Fraction
from itertools import combinations
from math import gcd

from wherelaid.arms import arms_of
from wherelaid.castings import Casting
from wherelaid.scales import Lever, Plain, Scale

SMALL = 10 ** 12
LARGE = 10 ** 150

# Things that are no whole numbers.
NOT_WHOLE = (None, True, False, "1", b"1", 1.0, (1, 1), [1], (), {})
# Things that are no ratios: lists, whole numbers, not in lowest terms, other bottoms, other kinds.
NOT_RATIOS = (
    None, True, 0, 1, "1", "1/2", 0.5, [1, 2], [0, 1], (), (1,), (1, 2, 3), (2, 4), (2, 2), (0, 2),
    (1, 0), (0, 0), (1, -2), (-1, -1), (True, 2), (1, True), (False, 1), (1.0, 2), (1, 2.0),
    ("1", 2), (1, None), ((1, 1), 1), {1: 2},
)
NOT_ABOVE_ZERO = NOT_RATIOS + ((0, 1), (-1, 1), (-1, 2))
# Ratios just within and just beyond the bounds of small ratios.
SMALL_ENDS = ((SMALL, 1), (-SMALL, 1), (1, SMALL), (-1, SMALL), (SMALL, SMALL - 1))
NOT_SMALL = (
    (SMALL + 1, 1), (-SMALL - 1, 1), (1, SMALL + 1), (-1, SMALL + 1),
    (SMALL + 1, SMALL), (SMALL, SMALL + 1),
)
NOT_ARM_SIZES = NOT_RATIOS + NOT_SMALL + ((0, 1), (-1, 1), (-1, 2))
NOT_WEIGHTS = NOT_RATIOS + NOT_SMALL + ((-1, 1), (-1, 2))
# Things that are no sequences, although most of them have entries.
NOT_SEQUENCES = (None, True, 0, 2, "ab", b"ab", {0: 1, 1: 2}, {1, 2}, range(2), frozenset((1, 2)))
NOT_PLACES = NOT_SEQUENCES + (
    (), [], ((0, 1),), ((0, 1), (0, 1), (0, 1)), (0, 0), ([0, 1], (0, 1)), ((0, 1), [0, 1]),
    ((0, 2), (0, 1)), ((0, 1), (2, 2)), ((SMALL + 1, 1), (0, 1)), ((0, 1), (1, SMALL + 1)),
    ((0, 1), None), (True, (0, 1)),
)


def ratio(size):
    """The ratio of a whole number, a Fraction or a text such as "1/2"."""
    whole = Fraction(size)
    return (whole.numerator, whole.denominator)


def fraction(one):
    """The Fraction of a ratio."""
    return Fraction(one[0], one[1])


def place(x, y):
    return (ratio(x), ratio(y))


def deep_list(thing):
    """The thing with a list for each tuple in it, ratios left as they are."""
    if not isinstance(thing, (list, tuple)):
        return thing
    if isinstance(thing, tuple) and len(thing) == 2 and all(type(part) is int for part in thing):
        return thing
    return [deep_list(part) for part in thing]


def corners():
    """The places of four legs at the corners of a plate."""
    return (place(0, 0), place(4, 0), place(4, 2), place(0, 2))


def six_places():
    return corners() + (place(2, 1), place("1/2", "-3/4"))


def levers():
    """A beam, two levers on it and one more lever upon lever 1."""
    return (
        Lever(ratio(3)),
        Lever(ratio(5), 0, ratio("1/2")),
        Lever(ratio("7/2"), 0, ratio(2)),
        Lever(ratio(11), 1, ratio("2/3")),
    )


def emptied(thing):
    """Take all out of each list in the thing."""
    if isinstance(thing, (list, tuple)):
        for part in thing:
            emptied(part)
    if isinstance(thing, list):
        thing.clear()


def chain(many, out="1", inward="1"):
    """A beam and more levers, of which each one pulls on the one before it."""
    below = [Lever(ratio(out), number, ratio(inward)) for number in range(many - 1)]
    return [Lever(ratio(out))] + below


LEGS = ((0, (1, 4)), (1, (3, 1)), (2, (5, 2)), (3, (13, 1)), (3, (1, 1)))


def scale():
    """A scale of four levers with five legs."""
    return Scale(levers(), LEGS, six_places()[:5])


def plain():
    """A Plain with four legs."""
    return Plain(corners(), (ratio(1), ratio("1/2"), ratio("2/3"), ratio(4)))


def great(figures, steps):
    """A ratio with so many figures on top and bottom, another one for each number of steps."""
    bottom = 10 ** figures - 1 - 2 * steps
    top = 10 ** (figures - 1) + 7 * steps
    while gcd(top, bottom) != 1:
        top += 1
    return (top, bottom)


# Legs in all kinds of ways to stand, each with a name.
LAYOUTS = {
    "two": (place(0, 0), place(4, 2)),
    "three in a row": (place(2, 1), place(0, 0), place(6, 3)),
    "four upright": (place(1, 5), place(1, -3), place(1, 2), place(1, 0)),
    "six in a row": tuple([place(Fraction(k, 2), -k) for k in (3, 0, 5, 1, -2, 4)]),
    "close row": (place(0, 0), place(0, 1), place(0, 3), place(0, 2)),
    "triangle": (place(0, 0), place(6, 0), place(0, 6)),
    "triangle clockwise": (place(0, 3), place(3, -1), place(-2, -2)),
    "square": corners(),
    "one inside": (place(2, 1), place(0, 0), place(7, 0), place(0, 6)),
    "one on a side": (place(0, 0), place(4, 0), place(0, 4), place(2, 2)),
    "crossed": (place(0, 0), place(4, 4), place(4, 0), place(0, 4), place(2, 2)),
    "five": (place(0, 0), place(5, -1), place(7, 4), place(2, 6), place(-2, 3)),
    "row and one": (place(0, 0), place(1, 0), place(2, 0), place(4, 0), place(1, 3)),
    "grid": tuple([place(x, y) for y in (0, 1) for x in (0, 1, 2)]),
    "six": six_places(),
    "hexagon": (place(2, 0), place(1, 2), place(-1, 2), place(-2, 0), place(-1, -2), place(1, -2)),
    "two inside": (place(1, 1), place(0, 0), place(9, 1), place(1, 8), place(2, 3), place(-3, 5)),
    "fractions": (place("1/2", "1/3"), place("-7/5", 2), place("9/4", "-5/6"), place(0, "11/7")),
    "great": tuple([(great(12, 3 * k), great(12, 5 * k * k + 1)) for k in range(6)]),
    "far": (place(SMALL, -SMALL), place(-SMALL, SMALL), place(SMALL, SMALL), place(0, 0)),
}

ROWS = ("two", "three in a row", "four upright", "six in a row", "close row")


def factors_for(places):
    """Some tuples of factors for these places: even, in one plane, and neither."""
    lot = random.Random(len(places) * 31 + places[0][0][1])
    flat = [Fraction(1, 7) * fraction(x) - Fraction(2, 3) * fraction(y) for x, y in places]
    low = min(flat)
    return (
        tuple([ratio("5/3")] * len(places)),
        tuple([ratio(height - low + 1) for height in flat]),
        tuple([ratio(Fraction(lot.randint(1, 9), lot.randint(1, 4))) for _ in places]),
        tuple([ratio(lot.randint(1, 3)) for _ in places]),
        tuple([great(150, 11 * k * k) for k in range(len(places))]),
    )


def plains():
    """Plains with all layouts and some factors, each with a name."""
    for name, places in LAYOUTS.items():
        for number, factors in enumerate(factors_for(places)):
            # The flat factors of far places would be too great, and the great ones take long.
            if all(Fraction(*factor) <= 10 ** 150 for factor in factors):
                yield f"{name} {number}", Plain(places, factors)


def some_loads(places):
    """Rows of 0 to 8 loads: none, of weight 0, at legs, on sides, inside, beyond."""
    yield ()
    yield ((ratio(0), place(5, 5)), (ratio(0), places[0]))
    yield ((ratio("7/2"), places[-1]),)
    yield ((ratio(2), places[0]), (ratio(3), places[1]))
    mean = tuple(ratio(sum(fraction(one[axis]) for one in places) / len(places)) for axis in (0, 1))
    if max(abs(part) for one in mean for part in one) <= SMALL:
        yield ((ratio(1), mean),)
    eight = tuple([(ratio(k % 3), places[k % len(places)]) for k in range(8)])
    yield eight
    # Each of these is beyond some side, all of them together need not be.
    yield ((ratio(1), place(100, 100)),)
    yield ((ratio("1/9"), place(100, -70)), (ratio("1/9"), place(-100, 70)))
    yield eight[:7] + ((ratio(1), place(-3, 8)),)


def scales():
    """Scales of all kinds, each with a name: even, settled and neither, with few and many levers."""
    one = ratio(1)
    yield "mixed", scale()
    yield "even", Scale(levers(), [(0, ratio(3))] * 4, corners())
    # The factors are 1 + x / 4 + y / 2, on three levers.
    yield "settled", Scale(
        [Lever(one), Lever(ratio(2), 0, one), Lever(one, 0, ratio(2))],
        [(0, one), (1, ratio(4)), (2, ratio("3/2")), (1, ratio(4))], corners())
    yield "two legs", Scale(chain(2, 3, "1/2"), [(0, one), (1, one)], LAYOUTS["two"])
    yield "row", Scale(chain(3, 2, 3), [(0, one), (1, ratio(2)), (2, one)], LAYOUTS["three in a row"])
    yield "chain", Scale(chain(6, "2/3", "3/4"), [(k, ratio(k + 1)) for k in range(6)], six_places())
    yield "beam", Scale(chain(1), [(0, one), (0, one), (0, ratio(2))], LAYOUTS["triangle"])
    yield "great", Scale(
        [Lever(great(12, 1)), Lever(great(12, 2), 0, great(12, 3)), Lever(great(12, 4), 1, great(12, 5))],
        [(k % 3, great(12, 6 + k)) for k in range(5)], LAYOUTS["great"][:5])


def castings(seed=1, each=12):
    """Castings of these scales with no letter, with one, with all eight, each with a name."""
    lot = random.Random(seed)
    for name, one in scales():
        arms = list(arms_of(one))
        for number in range(each):
            letters = "abcdefgh"[:(0, 1, 2, 3, 8)[number % 5]]
            chosen = lot.sample(arms, lot.randint(0, len(arms))) if letters else []
            if number == 6:
                chosen = arms
            yield f"{name} {number}", Casting(one, [(arm, lot.choice(letters)) for arm in chosen])


def exponents(casting, leg):
    """The powers of the letters in the leg's factor, and its number, told by going up its levers."""
    letters = dict(casting.rows)
    lever, seat = casting.scale.legs[leg]
    steps = [(("seat", leg), seat, 1)]
    while lever is not None:
        told = casting.scale.levers[lever]
        steps.append((("out", lever), told.out, -1))
        if told.above is not None:
            steps.append((("inward", lever), told.inward, 1))
        lever = told.above
    powers = dict.fromkeys(sorted(set(letters.values())), 0)
    number = Fraction(1)
    for arm, size, power in steps:
        if arm in letters:
            powers[letters[arm]] += power
        else:
            number *= fraction(size) ** power
    return powers, number


def factors_with(casting, values):
    """The factors as Fractions at values, a dict of Fractions or ratios."""
    found = []
    for leg in range(len(casting.scale)):
        powers, size = exponents(casting, leg)
        for letter, power in powers.items():
            value = values[letter]
            size *= (fraction(value) if isinstance(value, tuple) else Fraction(value)) ** power
        found.append(size)
    return found


def some_values(casting, seed, many=4):
    """Rows of values for all letters, each a tuple of couples."""
    lot = random.Random(seed)
    for _ in range(many):
        yield tuple((one, ratio(Fraction(lot.randint(1, 9), lot.randint(1, 5)))) for one in casting.letters)


def is_swap_by_words(places, numbers):
    """Whether these whole numbers, one for each leg, are a swap."""
    if len(numbers) != len(places) or not any(numbers) or sum(numbers) != 0:
        return False
    return all(sum(number * fraction(one[axis]) for number, one in zip(numbers, places)) == 0
               for axis in (0, 1))


def spots(places, seed, many=8):
    """Places within: at legs, on the ways between two legs, and means of three and of all."""
    lot = random.Random(seed)
    for number in range(many):
        size = (1, 2, 3, len(places))[number % 4]
        chosen = lot.sample(places, min(size, len(places)))
        shares = [lot.randint(1, 3) for _ in chosen]
        yield tuple(ratio(sum(fraction(one[axis]) * share for one, share in zip(chosen, shares)) / sum(shares))
                    for axis in (0, 1))


def small_layouts():
    """The names and places of the layouts whose coordinates are no great numbers."""
    return [(name, places) for name, places in LAYOUTS.items() if name not in ("great", "far")]


def plus_rows(row, other):
    return sum(fraction(one) * fraction(two) for one, two in zip(row, other))


def solve(columns, right):
    """The only solution of the sums of size * column = right, None if there is none or more."""
    rows = [[*row, end] for *row, end in zip(*columns, right)]
    many = len(columns)
    for at in range(many):
        found = [row for row in rows[at:] if row[at] != 0]
        if not found:
            return None
        rows.remove(found[0])
        rows.insert(at, [part / found[0][at] for part in found[0]])
        for other in range(len(rows)):
            if other != at:
                scaled = rows[other][at]
                rows[other] = [one - scaled * two for one, two in zip(rows[other], rows[at])]
    if any(row[-1] != 0 for row in rows[many:]):
        return None
    return [row[-1] for row in rows[:many]]


def column(there):
    """What a weight 1 at the place adds: to the total and to both sums."""
    return [Fraction(1), fraction(there[0]), fraction(there[1])]


def borne(loads):
    """The total and both sums of the loads, as Fractions."""
    rows = [[fraction(weight) * part for part in column(there)] for weight, there in loads]
    return [sum(parts, Fraction(0)) for parts in zip([0, 0, 0], *rows)]


def fits(places, loads, pushes):
    """Whether these are pushes that fit, by the words of the document."""
    amounts = [fraction(push) for push in pushes]
    if len(amounts) != len(places) or min(amounts) < 0:
        return False
    return borne(list(zip(pushes, places))) == borne(loads)


def shown(scale, pushes):
    """The showing of pushes as a Fraction."""
    return sum(fraction(one) * fraction(two) for one, two in zip(scale.factors, pushes))


def lean_by_solving(places, loads):
    """All lean pushes that fit, as Fractions, by solving the equations for each lot of legs."""
    right = borne(loads)
    if right[0] == 0:
        return [(Fraction(0),) * len(places)]
    found = set()
    for size in (1, 2, 3):
        for lot in combinations(range(len(places)), size):
            amounts = solve([column(places[leg]) for leg in lot], right)
            if amounts is not None and min(amounts) >= 0:
                sizes = dict(zip(lot, amounts))
                found.add(tuple(sizes.get(leg, Fraction(0)) for leg in range(len(places))))
    return sorted(found)


def height(plane, there):
    """The height of a plane over a place as a Fraction."""
    return sum(fraction(part) * size for part, size in zip(plane, column(there)))


class Case(unittest.TestCase):
    """A test case that tells which error a call raises, with which attributes."""

    def refuses(self, error, told, call, *args, **named):
        """Check that the call raises just this error, with the told values of its attributes."""
        with self.assertRaises(error) as caught:
            call(*args, **named)
        self.assertIs(type(caught.exception), error)
        values = tuple(vars(caught.exception).values())
        self.assertEqual(values, told)
        self.assertEqual([type(value) for value in values], [type(value) for value in told])

    def takes_lists(self, call, *args, **named):
        """Check that a call does with lists what it does with tuples, and neither changes nor keeps them.

        Return what the call returns.
        """
        wanted = call(*args, **named)
        lists = [deep_list(arg) for arg in args]
        before = copy.deepcopy(lists)
        found = call(*lists, **named)
        self.assertEqual(found, wanted)
        self.assertEqual(lists, before)
        emptied(lists)
        self.assertEqual(found, wanted)
        return wanted

    def told_apart(self, one, changes):
        """Check == and != of an object, and of others with one attribute changed."""
        kind = type(one)
        self.alike(one, kind(**{name: getattr(one, name) for name in changes}))
        for name in changes:
            row = {part: getattr(one, part) for part in changes}
            row[name] = changes[name]
            self.unlike(one, kind(**row))
        for thing in (None, 0, True, "a", (), [], tuple(getattr(one, name) for name in changes)):
            self.unlike(one, thing)

    def unlike(self, one, other):
        """Check that == and != tell the two things apart, both ways."""
        self.assertFalse(one == other)
        self.assertFalse(other == one)
        self.assertTrue(one != other)
        self.assertTrue(other != one)

    def alike(self, one, other):
        """Check that == and != hold the two things for equal, both ways."""
        self.assertTrue(one == other)
        self.assertTrue(other == one)
        self.assertFalse(one != other)
        self.assertFalse(other != one)

    def tuples(self, thing):
        """Check that the thing and all in it are whole numbers or tuples."""
        if type(thing) is not int:
            self.assertIs(type(thing), tuple)
            for part in thing:
                self.tuples(part)
