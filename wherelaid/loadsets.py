"""What known loads can make groups show together, and which of a pool can: points 8.9 and 8.10."""

from wherelaid.cones import shares_or_bar
from wherelaid.errors import BadWeights, TooMany
from wherelaid.groups import check_showings, showings_of
from wherelaid.hulls import corner_points
from wherelaid.linear import unit_row
from wherelaid.loads import check_loads, moment_of, total_of
from wherelaid.lots import lots_of
from wherelaid.pushes import lean_rows, tipping_side
from wherelaid.ratios import ONE, greatest_of, is_ratio, least_of, sum_of, times
from wherelaid.sequences import is_sequence
from wherelaid.skins import Tips

MOST_CORNERED = 2
MOST_POOL = 4


class MixRange:
    """The least and the greatest sum of weight * showing, with pushes that meet them."""

    def __init__(self, least, greatest, low_pushes, high_pushes):
        self.least = least
        self.greatest = greatest
        self.low_pushes = low_pushes
        self.high_pushes = high_pushes

    def __eq__(self, other):
        return (isinstance(other, MixRange) and self.least == other.least
                and self.greatest == other.greatest and self.low_pushes == other.low_pushes
                and self.high_pushes == other.high_pushes)


class SureLoads:
    """The loads that are in each lot that fits, and those that are in none."""

    def __init__(self, always, never):
        self.always = always
        self.never = never

    def __eq__(self, other):
        return (isinstance(other, SureLoads) and self.always == other.always
                and self.never == other.never)


def _check_weights(groups, weights):
    """Return one ratio for each group as a tuple, or raise BadWeights."""
    if not is_sequence(weights, len(groups), len(groups)):
        raise BadWeights(0, "many")
    for index, weight in enumerate(weights):
        if not is_ratio(weight):
            raise BadWeights(index, "weight")
    return tuple(weights)


def mix_range(groups, loads, weights):
    """Return the MixRange of the loads, or Tips."""
    rows = check_loads(loads)
    sizes = _check_weights(groups, weights)
    side = tipping_side(groups.places, rows)
    if side is not None:
        return Tips(side)
    # Lean pushes are the corners of all pushes that fit, so both ends come among them.
    lean = lean_rows(groups.places, rows)
    mixes = []
    for pushes in lean:
        mixes.append(sum_of([times(size, own) for size, own in zip(sizes, showings_of(groups, pushes))]))
    least = least_of(mixes)
    greatest = greatest_of(mixes)
    return MixRange(least, greatest, lean[mixes.index(least)], lean[mixes.index(greatest)])


def showing_corners(groups, loads):
    """Return the corners of all couples of showings of two groups for the loads, or Tips."""
    if len(groups) > MOST_CORNERED:
        raise TooMany(MOST_CORNERED)
    rows = check_loads(loads)
    side = tipping_side(groups.places, rows)
    if side is not None:
        return Tips(side)
    return corner_points([showings_of(groups, pushes) for pushes in lean_rows(groups.places, rows)])


def _pushes_that_show(groups, loads, showings):
    """Return what pushes_that_show returns, for loads and showings that are checked already."""
    columns = []
    for leg, place in enumerate(groups.places):
        shown = [times(groups.factors[leg], part) for part in unit_row(len(groups), groups.group_of(leg))]
        columns.append((*shown, ONE, *place))
    pushes, _ = shares_or_bar(columns, (*showings, total_of(loads), *moment_of(loads)))
    return pushes


def pushes_that_show(groups, loads, showings):
    """Return pushes that fit the loads and give the showings, or None."""
    rows = check_loads(loads)
    return _pushes_that_show(groups, rows, check_showings(groups, showings))


def lots_that_fit(groups, pool, showings):
    """Return all lots whose loads alone can give the showings, ascending."""
    loads = check_loads(pool)
    if len(loads) > MOST_POOL:
        raise TooMany(MOST_POOL)
    checked = check_showings(groups, showings)
    lots = []
    for size in range(len(loads) + 1):
        for lot in lots_of(len(loads), size):
            if _pushes_that_show(groups, [loads[one] for one in lot], checked) is not None:
                lots.append(lot)
    return tuple(sorted(lots))


def sure_loads(groups, pool, showings):
    """Return SureLoads, or None if no lot of the pool can give the showings."""
    lots = lots_that_fit(groups, pool, showings)
    if not lots:
        return None
    numbers = range(len(pool))
    always = [one for one in numbers if all([one in lot for lot in lots])]
    never = [one for one in numbers if not any([one in lot for lot in lots])]
    return SureLoads(tuple(always), tuple(never))
