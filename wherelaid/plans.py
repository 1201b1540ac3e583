"""Plans of tests, and which numbers their showings always tell: points 6.5 and 6.6."""

from wherelaid.errors import BadPlan, BadRow
from wherelaid.hulls import first_beyond
from wherelaid.linear import along_row, amounts_or_way, product_of, room_along, unit_row
from wherelaid.places import check_places, is_place
from wherelaid.pushes import fit_fault, lean_rows
from wherelaid.ratios import (
    ONE, ZERO, is_above_zero, is_ratio, least_of, minus, negative, over, plus, sum_of, times,
)
from wherelaid.sequences import is_sequence

MOST_PLACES = 8
HALF = (1, 2)


class Sure:
    """The number is the sum of amount * showing, whatever the factors and the shares."""

    def __init__(self, amounts):
        self.amounts = amounts

    def __eq__(self, other):
        return isinstance(other, Sure) and self.amounts == other.amounts


class Alike:
    """Two rows of factors with unlike numbers, and pushes with which they show the same."""

    def __init__(self, first, second, first_pushes, second_pushes):
        self.first = first
        self.second = second
        self.first_pushes = first_pushes
        self.second_pushes = second_pushes

    def __eq__(self, other):
        return (isinstance(other, Alike) and self.first == other.first
                and self.second == other.second and self.first_pushes == other.first_pushes
                and self.second_pushes == other.second_pushes)


def check_plan(places, plan):
    """Return 0 to 8 places within as a tuple of tuples, or raise BadPlan."""
    return plan_within(check_places(places), plan)


def plan_within(places, plan):
    """Return what check_plan returns, for places that are checked already."""
    if not is_sequence(plan, 0, MOST_PLACES):
        raise BadPlan(0, "many")
    wrong = wrong_stand(places, plan)
    if wrong is not None:
        index, what = wrong
        raise BadPlan(index, what)
    return tuple([tuple(place) for place in plan])


def wrong_stand(places, plan):
    """Return (index, word) of the first entry that is no place within, or None."""
    for index, place in enumerate(plan):
        if not is_place(place):
            return (index, "place")
        if first_beyond(places, place) is not None:
            return (index, "outside")
    return None


def lean_at(places, plan):
    """Return for each place of the plan all lean pushes that fit a weight 1 there; no check."""
    return [lean_rows(places, ((ONE, place),)) for place in plan]


def _check_row(row, legs):
    """Return the row as a tuple, or raise BadRow."""
    if not is_sequence(row, legs, legs):
        raise BadRow(0)
    for index, number in enumerate(row):
        if not is_ratio(number):
            raise BadRow(index)
    return tuple(row)


def _only_rows(lean):
    """Return the pushes at one-way places, and zeros, which tell nothing, at shared ones."""
    return [rows[0] if len(rows) == 1 else (ZERO,) * len(rows[0]) for rows in lean]


def tells(places, plan, row):
    """Return Sure if the showings always tell the sum of row * factor, else Alike."""
    rows = check_places(places)
    lean = lean_at(rows, plan_within(rows, plan))
    amounts, way = amounts_or_way(_only_rows(lean), _check_row(row, len(rows)))
    return _alike_along(way, lean) if amounts is None else Sure(amounts)


def _alike_along(way, lean):
    """Return an Alike whose factors differ along the way, which no one-way place sees."""
    first, pairs = _factors_apart(lean, len(way))
    sizes = [room_along(first, way)]
    for low, high in pairs:
        # Both move along the way; the mean of the two showings has to stay between them.
        room = times(HALF, minus(product_of(high, first), product_of(low, first)))
        for speed in (product_of(low, way), negative(product_of(high, way))):
            if speed[0] > 0:
                sizes.append(over(room, speed))
    second = along_row(first, least_of(sizes), way)
    means = [_mixed(low, high, HALF) for low, high in pairs]
    others = []
    for mean, (low, high) in zip(means, pairs):
        others.append(_mixed(low, high, _share_for(product_of(mean, first), low, high, second)))
    return Alike(first, second, tuple(means), tuple(others))


def _factors_apart(lean, legs):
    """Return factors, and for each place two pushes: with the second one they show more.

    At one-way places both are the only pushes. Powers of a number show alike for two pushes only if
    it is one of a few roots: so some number will do for all places.
    """
    number = 0
    while True:
        number += 1
        factors = _powers_of(number, legs)
        pairs = [_ends_of(rows, factors) for rows in lean]
        if all([len(rows) == 1 or low != high for rows, (low, high) in zip(lean, pairs)]):
            return (factors, pairs)


def _powers_of(number, many):
    powers = [1]
    for _ in range(many - 1):
        powers.append(powers[-1] * number)
    return tuple([(power, 1) for power in powers])


def _ends_of(rows, factors):
    """Return two of the rows with unlike showings, the lesser first; the first row twice if none are."""
    low = rows[0]
    for high in rows:
        more = minus(product_of(high, factors), product_of(low, factors))
        if more != ZERO:
            return (low, high) if more[0] > 0 else (high, low)
    return (low, low)


def _mixed(low, high, share):
    """Return low + share * (high - low)."""
    return tuple([plus(one, times(share, minus(two, one))) for one, two in zip(low, high)])


def _share_for(showing, low, high, factors):
    """Return the share with which a mix of the two pushes shows this with the factors."""
    least = product_of(low, factors)
    way = minus(product_of(high, factors), least)
    return ZERO if way == ZERO else over(minus(showing, least), way)


def tells_fault(places, plan, row, told):
    """Judge whether the thing is what tells may return, or as good."""
    rows = check_places(places)
    checked = plan_within(rows, plan)
    numbers = _check_row(row, len(rows))
    if isinstance(told, Sure):
        return _sure_fault(lean_at(rows, checked), numbers, told.amounts)
    if not isinstance(told, Alike):
        return "kind"
    for word, factors in (("first", told.first), ("second", told.second)):
        if not are_factors(factors, len(rows)):
            return word
    if product_of(told.first, numbers) == product_of(told.second, numbers):
        return "number"
    for word, pushes in (("first pushes", told.first_pushes), ("second pushes", told.second_pushes)):
        if not are_pushes_at(rows, checked, pushes):
            return word
    for one, two in zip(told.first_pushes, told.second_pushes):
        if product_of(one, told.first) != product_of(two, told.second):
            return "showing"
    return None


def _sure_fault(lean, row, amounts):
    """Return what is wrong with the amounts of a Sure, or None."""
    if not is_sequence(amounts, len(lean), len(lean)) or not all([is_ratio(one) for one in amounts]):
        return "many"
    if any([len(rows) > 1 and amount != ZERO for rows, amount in zip(lean, amounts)]):
        return "shared"
    for leg in range(len(row)):
        if sum_of([times(amount, rows[0][leg]) for amount, rows in zip(amounts, lean)]) != row[leg]:
            return "sum"
    return None


def are_factors(thing, legs):
    """Whether the thing is a sequence of one ratio above 0 for each leg."""
    return is_sequence(thing, legs, legs) and all([is_above_zero(factor) for factor in thing])


def are_pushes_at(places, plan, thing):
    """Whether the thing has for each place of the plan pushes that fit a weight 1 there."""
    if not is_sequence(thing, len(plan), len(plan)):
        return False
    faults = [fit_fault(places, ((ONE, place),), pushes) for place, pushes in zip(plan, thing)]
    return all([fault is None for fault in faults])


def told_legs(rows, legs):
    """Return the legs whose factor is told by the only pushes at some places, as a tuple."""
    found = []
    for leg in range(legs):
        amounts, _ = amounts_or_way(rows, unit_row(legs, leg))
        if amounts is not None:
            found.append(leg)
    return tuple(found)


def sure_legs(places, plan):
    """Return the legs whose own factor the showings always tell."""
    rows = check_places(places)
    return told_legs(_only_rows(lean_at(rows, plan_within(rows, plan))), len(rows))
