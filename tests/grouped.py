"""What the tests of groups need: groups of many kinds, showings, and what pushes show and bear."""

import random
from fractions import Fraction

from tests.helper import borne, fraction, great, place, ratio, small_layouts
from wherelaid.groups import Groups
from wherelaid.scales import Plain

ZERO, ONE = ratio(0), ratio(1)

# Two groups of two legs, on the corners of a plate: factors 1, 2 and 3, 4.
SQUARE = (place(0, 0), place(4, 0), place(4, 2), place(0, 2))


def square(*factors, rows=((0, 1), (2, 3))):
    return Groups(Plain(SQUARE, [ratio(factor) for factor in factors]), rows)


def partings(legs, many):
    """All ways to part the legs into so many groups that are not empty, as lists of tuples."""
    rows = [[]]
    for _ in range(legs):
        rows = [[*row, group] for row in rows for group in range(many)]
    found = []
    for row in rows:
        groups = [tuple(leg for leg in range(legs) if row[leg] == group) for group in range(many)]
        if all(groups):
            found.append(groups)
    return found


def some_groups(seed, rounds=2):
    """Groups of many kinds: with even, flat and other factors, in any order, with one leg and more."""
    lot = random.Random(seed)
    for name, places in small_layouts():
        for number in range(rounds):
            many = 2 + (number + len(places)) % 2
            if many <= len(places):
                rows = lot.choice(partings(len(places), many))
                factors = [ratio(Fraction(lot.choice((1, 2, 3)), lot.choice((1, 1, 2)))) for _ in places]
                if number % 3 == 2:
                    for row in rows:
                        for leg in row:
                            factors[leg] = factors[row[0]]
                yield name, Groups(Plain(places, factors), rows)


def great_groups():
    places = tuple((great(12, 3 * k), great(12, 5 * k * k + 1)) for k in range(5))
    return Groups(Plain(places, [great(150, 11 * k * k) for k in range(5)]), [(0, 3), (1, 2), (4,)])


def some_showings(groups, seed, many=4):
    """Showings that are all 0, some 0, and great."""
    lot = random.Random(seed)
    yield (ZERO,) * len(groups)
    yield tuple(great(150, 7 * k) for k in range(len(groups)))
    for number in range(len(groups)):
        yield tuple(ratio("5/3") if own == number else ZERO for own in range(len(groups)))
    for _ in range(many):
        yield tuple(ratio(Fraction(lot.choice((0, 1, 2, 7)), lot.choice((1, 3)))) for _ in range(len(groups)))


def some_pushes(groups, seed, many=5):
    lot = random.Random(seed)
    for _ in range(many):
        yield tuple(ratio(Fraction(lot.choice((0, 0, 1, 2, 5)), lot.choice((1, 2, 3)))) for _ in groups.places)


def shows(groups, pushes):
    """What each group shows under the pushes, as Fractions."""
    return [sum(fraction(groups.factors[leg]) * fraction(pushes[leg]) for leg in row) for row in groups.rows]


def gives(groups, pushes, showings):
    """Whether these are pushes, from 0 on, that give the showings."""
    if type(pushes) is not tuple or len(pushes) != len(groups.places):
        return False
    if any(type(push) is not tuple or push[0] < 0 for push in pushes):
        return False
    return shows(groups, pushes) == [fraction(showing) for showing in showings]


def load_of(groups, pushes):
    """(total, x, y) of the one load that pushes bear, as Fractions, None if all are 0."""
    total, across, along = borne(list(zip(pushes, groups.places)))
    return (total, across / total, along / total) if total else None


def corner_selections(groups, showings):
    """All pushes on one leg alone in each group that shows more than 0, as Fractions."""
    rows = [[]]
    for row, showing in zip(groups.rows, showings):
        rows = [[*legs, leg] for legs in rows for leg in (row if showing[0] else row[:1])]
    found = []
    for legs in rows:
        pushes = [Fraction(0)] * len(groups.places)
        for leg, showing in zip(legs, showings):
            pushes[leg] = fraction(showing) / fraction(groups.factors[leg])
        found.append(pushes)
    return found
