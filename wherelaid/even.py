"""Scales that weigh alike wherever a load lies, and how far others err: points 3.12 and 3.13."""

from wherelaid.errors import BadError, BadSize
from wherelaid.ratios import (
    ONE, compare, greatest_of, is_factor, is_from_zero, least_of, minus, over, plus, times,
)


class Uneven:
    """Two legs whose factors are unlike."""

    def __init__(self, leg, other):
        self.leg = leg
        self.other = other

    def __eq__(self, other):
        return isinstance(other, Uneven) and self.leg == other.leg and self.other == other.other


def is_even(scale):
    """Whether all factors are equal."""
    return uneven_of(scale) is None


def uneven_of(scale):
    """Return None for an even scale, else leg 0 and the first leg with another factor."""
    for leg, factor in enumerate(scale.factors):
        if factor != scale.factors[0]:
            return Uneven(0, leg)
    return None


def check_factor(size):
    """Return the size, or raise BadSize if it is no factor that may be passed in."""
    if not is_factor(size):
        raise BadSize(size)
    return size


def error_range(scale, factor):
    """Return the least and the greatest error of the showing against factor * total."""
    check_factor(factor)
    least = over(least_of(scale.factors), factor)
    greatest = over(greatest_of(scale.factors), factor)
    return (minus(least, ONE), minus(greatest, ONE))


def best_factor(scale):
    """Return the factor told with which the greatest error is least, and this error."""
    least = least_of(scale.factors)
    greatest = greatest_of(scale.factors)
    both = plus(least, greatest)
    return (over(both, (2, 1)), over(minus(greatest, least), both))


def error_bounds(factor, error):
    """Return the least and the greatest factor that err no more; BadSize, then BadError."""
    check_factor(factor)
    if not is_from_zero(error):
        raise BadError(error)
    return (times(minus(ONE, error), factor), times(plus(ONE, error), factor))


def outside_error(scale, factor, error):
    """Return the first leg whose factor is beyond the error from the factor told, or None."""
    least, greatest = error_bounds(factor, error)
    for leg, own in enumerate(scale.factors):
        if compare(own, least) < 0 or compare(own, greatest) > 0:
            return leg
    return None
