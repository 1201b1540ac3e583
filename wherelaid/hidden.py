"""Legs that are no corners, and which factors tests leave to one leg: points 6.9 and 6.10."""

from wherelaid.errors import NotHidden
from wherelaid.fits import tests_within
from wherelaid.hulls import corners_of
from wherelaid.places import check_leg, check_places
from wherelaid.pushes import lean_rows
from wherelaid.ratios import (
    ONE, ZERO, compare, greatest_of, least_of, minus, over, sum_of, times,
)
from wherelaid.scales import Plain
from wherelaid.skins import skin_at


class Left:
    """The factors that are left to a leg: from `low` to `high`, None where there is no such end."""

    def __init__(self, low, high):
        self.low = low
        self.high = high

    def __eq__(self, other):
        return isinstance(other, Left) and self.low == other.low and self.high == other.high


def hidden_legs(places):
    """Return the legs that are no corners, ascending."""
    rows = check_places(places)
    corners = corners_of(rows)
    return tuple([leg for leg in range(len(rows)) if leg not in corners])


def is_hidden(scale, leg):
    """Whether the leg is no corner; neither is checked."""
    return leg not in corners_of(scale.places)


def legs_alone(scale, legs):
    """Return the Plain of some legs, two or more, in their order."""
    return Plain([scale.places[leg] for leg in legs], [scale.factors[leg] for leg in legs])


def skins_of_others(scale, leg):
    """Return the lower and the upper skin of the other legs at the place of a hidden leg."""
    others = legs_alone(scale, [other for other in range(len(scale)) if other != leg])
    place = scale.places[leg]
    return (skin_at(others, place, False), skin_at(others, place, True))


def free_ways(scale, leg):
    """Return which ways the factor of a hidden leg may go, however great or small, unseen by tests."""
    check_leg(scale, leg)
    if not is_hidden(scale, leg):
        raise NotHidden(leg)
    low, high = skins_of_others(scale, leg)
    ways = []
    if compare(scale.factors[leg], low) >= 0:
        ways.append("up")
    if compare(scale.factors[leg], high) <= 0:
        ways.append("down")
    return tuple(ways)


def factor_left(scale, tests, leg):
    """Return Left with the factors that the leg may have, the others keeping theirs, or None."""
    checked = tests_within(scale.places, tests)
    check_leg(scale, leg)
    lows = [ZERO]
    highs = []
    for place, showing in checked:
        bounds = _bounds_by(scale, leg, place, showing)
        if bounds is None:
            return None
        lows = lows + bounds[0]
        highs = highs + bounds[1]
    low = greatest_of(lows)
    high = least_of(highs) if highs else None
    if high is not None and (high[0] <= 0 or compare(low, high) > 0):
        return None
    return Left(None if low == ZERO else low, high)


def _bounds_by(scale, leg, place, showing):
    """Return (lows, highs), lists of at most one bound that a test sets to the leg's factor.

    None if the test fits no factor of this leg.
    """
    # Some lean pushes must show no more than was told, and some no less. Those that push the leg
    # show no more up to some factor, and no less from it on; the others show one thing always.
    ends = []
    gaps = []
    for pushes in lean_rows(scale.places, ((ONE, place),)):
        shown = [times(factor, push) for factor, push in zip(scale.factors, pushes)]
        shown[leg] = ZERO
        gap = minus(showing, sum_of(shown))
        if pushes[leg] == ZERO:
            gaps.append(gap)
        else:
            ends.append(over(gap, pushes[leg]))
    no_low = any([gap[0] <= 0 for gap in gaps])
    no_high = any([gap[0] >= 0 for gap in gaps])
    if not ends and not (no_low and no_high):
        return None
    return ([] if no_low else [least_of(ends)], [] if no_high else [greatest_of(ends)])
