"""What the showings of groups tell of the total that is borne: points 8.3 and 8.4."""

from wherelaid.errors import BadTotal
from wherelaid.groups import check_showings, part_factors
from wherelaid.linear import along_row
from wherelaid.ratios import (
    ONE, ZERO, compare, greatest_of, is_ratio, least_of, minus, negative, over, sum_of,
)


class Totals:
    """The least and the greatest total that gives some showings, with pushes that have them."""

    def __init__(self, least, greatest, light, heavy):
        self.least = least
        self.greatest = greatest
        self.light = light
        self.heavy = heavy

    def __eq__(self, other):
        return (isinstance(other, Totals) and self.least == other.least
                and self.greatest == other.greatest and self.light == other.light
                and self.heavy == other.heavy)


class Spread:
    """The greatest quotient of two factors of one group, this group, and two legs that have it."""

    def __init__(self, quotient, group, low, high):
        self.quotient = quotient
        self.group = group
        self.low = low
        self.high = high

    def __eq__(self, other):
        return (isinstance(other, Spread) and self.quotient == other.quotient
                and self.group == other.group and self.low == other.low
                and self.high == other.high)


def _least_leg(groups, number):
    """Return the first leg of the group with its least factor."""
    factors = part_factors(groups, number)
    return groups.rows[number][factors.index(least_of(factors))]


def _greatest_leg(groups, number):
    """Return the first leg of the group with its greatest factor."""
    factors = part_factors(groups, number)
    return groups.rows[number][factors.index(greatest_of(factors))]


def pushes_on(groups, showings, legs):
    """Return the pushes that give the showings, each group on the one leg told for it alone."""
    pushes = [ZERO] * len(groups.places)
    for leg, showing in zip(legs, showings):
        pushes[leg] = over(showing, groups.factors[leg])
    return tuple(pushes)


def _totals(groups, showings):
    """Return the Totals for showings that are checked already."""
    numbers = range(len(groups))
    light = pushes_on(groups, showings, [_greatest_leg(groups, number) for number in numbers])
    heavy = pushes_on(groups, showings, [_least_leg(groups, number) for number in numbers])
    return Totals(sum_of(light), sum_of(heavy), light, heavy)


def totals_that_fit(groups, showings):
    """Return the Totals of all pushes that give the showings."""
    return _totals(groups, check_showings(groups, showings))


def pushes_of_total(groups, showings, total):
    """Return pushes that give the showings and have this total, or None."""
    told = totals_that_fit(groups, showings)
    if not is_ratio(total):
        raise BadTotal(total)
    if compare(total, told.least) < 0 or compare(total, told.greatest) > 0:
        return None
    if told.least == told.greatest:
        return told.light
    part = over(minus(total, told.least), minus(told.greatest, told.least))
    way = along_row(told.heavy, negative(ONE), told.light)
    return along_row(told.light, part, way)


def total_told(groups, showings):
    """Return the total if all pushes that give the showings have the same one, else None."""
    told = totals_that_fit(groups, showings)
    return told.least if told.least == told.greatest else None


def sure_total(groups):
    """Return None if the showings always tell the total, else two legs of one group that differ."""
    for row in groups.rows:
        for leg in row:
            if groups.factors[leg] != groups.factors[row[0]]:
                return (row[0], leg)
    return None


def spread_of(groups):
    """Return the Spread of the groups."""
    quotients = []
    for number in range(len(groups)):
        factors = part_factors(groups, number)
        quotients.append(over(greatest_of(factors), least_of(factors)))
    quotient = greatest_of(quotients)
    group = quotients.index(quotient)
    return Spread(quotient, group, _least_leg(groups, group), _greatest_leg(groups, group))
