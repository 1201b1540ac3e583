"""Whole numbers and ratios: points 0.4, 0.5, 1.1 and 1.2."""

from math import gcd, lcm

from wherelaid.errors import BadRatio, BadSize

ZERO = (0, 1)
ONE = (1, 1)
# The bounds of what is passed in: of small ratios, and of factors.
SMALL = 10 ** 12
LARGE = 10 ** 50 * 10 ** 50 * 10 ** 50


def is_whole(thing, low=None, high=None):
    """Whether the thing is a whole number from `low` to `high` (None: no bound)."""
    if not isinstance(thing, int) or isinstance(thing, bool):
        return False
    return (low is None or thing >= low) and (high is None or thing <= high)


def is_ratio(thing):
    """Whether the thing is a tuple (top, bottom) in lowest terms with a bottom of 1 or more."""
    if not isinstance(thing, tuple) or len(thing) != 2:
        return False
    top, bottom = thing
    return is_whole(top) and is_whole(bottom, 1) and gcd(top, bottom) == 1


def is_within_bound(thing, bound):
    """Whether the thing is a ratio whose top, without its sign, and bottom are at most the bound."""
    return is_ratio(thing) and abs(thing[0]) <= bound and thing[1] <= bound


def is_coordinate(thing):
    """Whether the thing is a small ratio."""
    return is_within_bound(thing, SMALL)


def is_arm_size(thing):
    """Whether the thing is a small ratio above 0."""
    return is_coordinate(thing) and thing[0] > 0


def is_weight(thing):
    """Whether the thing is a small ratio from 0 on."""
    return is_coordinate(thing) and thing[0] >= 0


def is_factor(thing):
    """Whether the thing is a ratio above 0 that may be passed in as a factor."""
    return is_within_bound(thing, LARGE) and thing[0] > 0


def is_above_zero(thing):
    """Whether the thing is a ratio above 0, of any size."""
    return is_ratio(thing) and thing[0] > 0


def is_from_zero(thing):
    """Whether the thing is a ratio from 0 on, of any size."""
    return is_ratio(thing) and thing[0] >= 0


def check_size(size):
    """Return the size, or raise BadSize if it is no arm size."""
    if not is_arm_size(size):
        raise BadSize(size)
    return size


def make_ratio(top, bottom=1):
    """Return top / bottom as a ratio."""
    if not is_whole(top):
        raise BadRatio("top")
    if not is_whole(bottom) or bottom == 0:
        raise BadRatio("bottom")
    return _in_lowest_terms(top, bottom)


def _in_lowest_terms(top, bottom):
    common = gcd(top, bottom)
    if bottom < 0:
        common = -common
    return (top // common, bottom // common)


def plus(one, two):
    """Return the sum of two ratios."""
    return _in_lowest_terms(one[0] * two[1] + two[0] * one[1], one[1] * two[1])


def minus(one, two):
    """Return the first ratio less the second one."""
    return _in_lowest_terms(one[0] * two[1] - two[0] * one[1], one[1] * two[1])


def times(one, two):
    """Return the product of two ratios."""
    return _in_lowest_terms(one[0] * two[0], one[1] * two[1])


def over(one, two):
    """Return the first ratio divided by the second one."""
    if two[0] == 0:
        raise BadRatio("zero")
    return _in_lowest_terms(one[0] * two[1], one[1] * two[0])


def negative(one):
    """Return the ratio with the other sign."""
    return (-one[0], one[1])


def compare(one, two):
    """Return -1, 0 or 1 as the first ratio is less than, equal to or greater than the second one."""
    left = one[0] * two[1]
    right = two[0] * one[1]
    if left < right:
        return -1
    return 1 if left > right else 0


def sum_of(ratios):
    """Return the sum of any number of ratios."""
    total = ZERO
    for ratio in ratios:
        total = plus(total, ratio)
    return total


def least_of(ratios):
    """Return the least of one or more ratios."""
    least = ratios[0]
    for ratio in ratios:
        if compare(ratio, least) < 0:
            least = ratio
    return least


def greatest_of(ratios):
    """Return the greatest of one or more ratios."""
    greatest = ratios[0]
    for ratio in ratios:
        if compare(ratio, greatest) > 0:
            greatest = ratio
    return greatest


def ascending(rows):
    """Return the unlike ones of rows of as many ratios, ascending entry by entry by value."""
    # Over one common bottom the tops stand in the order of the ratios.
    bottom = _common_bottom([ratio for row in rows for ratio in row])
    tops = [tuple(_tops_over(row, bottom)) for row in rows]
    return [tuple([_in_lowest_terms(top, bottom) for top in row]) for row in sorted(set(tops))]


def coprime_of(ratios):
    """Return the tuple of whole numbers in the same proportion without a common divisor.

    The ratios are not all 0; signs stay.
    """
    tops = _tops_over(ratios, _common_bottom(ratios))
    common = 0
    for top in tops:
        common = gcd(common, top)
    return tuple([top // common for top in tops])


def _common_bottom(ratios):
    common = 1
    for _, bottom in ratios:
        common = lcm(common, bottom)
    return common


def _tops_over(ratios, common):
    return [top * (common // bottom) for top, bottom in ratios]


def floor_of(one):
    """Return the greatest whole number that is at most the ratio."""
    return one[0] // one[1]


def ratio_text(one):
    """Return the ratio as a text, such as "3" or "-1/2"."""
    top, bottom = one
    return f"{top}" if bottom == 1 else f"{top}/{bottom}"
