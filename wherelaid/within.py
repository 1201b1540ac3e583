"""Castings judged for all sizes within stretches: point 4.12."""

from wherelaid.always import FailsEven, unsettled_among
from wherelaid.castings import monomials_of
from wherelaid.even import error_bounds
from wherelaid.monomials import divide
from wherelaid.ratios import ONE, compare, make_ratio, minus, plus, times
from wherelaid.stretches import check_stretches, ends_of


class BeyondAlways:
    """Values at which the factor of a leg is beyond the error told."""

    def __init__(self, at_values, leg):
        self.at_values = at_values
        self.leg = leg

    def __eq__(self, other):
        return (isinstance(other, BeyondAlways) and self.at_values == other.at_values
                and self.leg == other.leg)


def even_within(casting, stretches):
    """Return None if the scale is even for all values within, else a FailsEven."""
    checked = check_stretches(casting, stretches)
    monomials = monomials_of(casting)
    for other, monomial in enumerate(monomials):
        ends = ends_of(divide(monomial, monomials[0]), checked)
        if ends.least != ONE:
            return FailsEven(ends.low_values, 0, other)
        if ends.greatest != ONE:
            return FailsEven(ends.high_values, 0, other)
    return None


def settled_within(casting, stretches):
    """Return None if the scale is settled for all values within, else a FailsSettled."""
    choices = {}
    for letter, low, high in check_stretches(casting, stretches):
        choices[letter] = _steps(low, high, len(casting.scale))
    return unsettled_among(choices, casting)


def _steps(low, high, many):
    """Return low + (high - low) * k / many for each k from 0 on below many; once if all are one."""
    if low == high:
        return [low]
    way = minus(high, low)
    return [plus(low, times(way, make_ratio(step, many))) for step in range(many)]


def outside_always(casting, stretches, factor, error):
    """Return None if no factor is ever beyond the error from the factor told, else BeyondAlways."""
    checked = check_stretches(casting, stretches)
    least, greatest = error_bounds(factor, error)
    for leg, monomial in enumerate(monomials_of(casting)):
        ends = ends_of(monomial, checked)
        if compare(ends.least, least) < 0:
            return BeyondAlways(ends.low_values, leg)
        if compare(ends.greatest, greatest) > 0:
            return BeyondAlways(ends.high_values, leg)
    return None
