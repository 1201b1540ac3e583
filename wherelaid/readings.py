"""Readings of unknown loads on unknown pans, and cases that keep them: points 9.7 and 9.8.

A *bound* is here a triple: a ratio above 0, whether the ratio itself is let, and the numbers of the
readings that set it; None stands for no bound. The *limits* of a load are four bounds, from below
and from above: of its poise on the left, then of that on the right.
"""

from wherelaid.errors import BadMany, BadReading
from wherelaid.pans import is_pan
from wherelaid.ratios import (
    ONE, compare, is_above_zero, is_arm_size, is_whole, over, plus, times,
)
from wherelaid.sequences import is_sequence

MOST_LOADS = 4
MOST_READINGS = 24
SIGNS = ("load", "poise", "even")
TWO = (2, 1)


class PansCase:
    """The squares of all loads' weights, and of the quotient of the pans."""

    def __init__(self, squares, quotient):
        self.squares = squares
        self.quotient = quotient

    def __eq__(self, other):
        return (isinstance(other, PansCase) and self.squares == other.squares
                and self.quotient == other.quotient)


class NoCase:
    """No case keeps the readings of these numbers together."""

    def __init__(self, rows):
        self.rows = rows

    def __eq__(self, other):
        return isinstance(other, NoCase) and self.rows == other.rows


def check_rows(many, rows, is_row):
    """Return the readings as a tuple of tuples, or raise BadMany or BadReading.

    The function `is_row` tells of a thing whether it is a reading of so many loads.
    """
    if not is_whole(many, 1, MOST_LOADS):
        raise BadMany(many)
    if not is_sequence(rows, 0, MOST_READINGS):
        raise BadReading(0, "many")
    for index, row in enumerate(rows):
        if not is_row(many, row):
            raise BadReading(index, "reading")
    return tuple([tuple(row) for row in rows])


def check_readings(many, rows):
    """Return the readings as a tuple of tuples, or raise BadMany or BadReading."""
    return check_rows(many, rows, _is_reading)


def _is_reading(many, thing):
    if not is_sequence(thing, 4, 4):
        return False
    load, pan, poise, sign = thing
    return is_whole(load, 0, many - 1) and is_pan(pan) and is_arm_size(poise) and sign in SIGNS


def case_fault(many, rows, case):
    """Judge whether the thing is a case that keeps all readings."""
    readings = check_readings(many, rows)
    if not isinstance(case, PansCase) or not _are_squares(many, case.squares):
        return "squares"
    if not is_above_zero(case.quotient):
        return "quotient"
    for load, pan, poise, sign in readings:
        if _sign_of(case.squares[load], pan, poise, case.quotient) != sign:
            return "reading"
    return None


def _are_squares(many, thing):
    if not isinstance(thing, tuple) or len(thing) != many:
        return False
    return all([is_above_zero(square) for square in thing])


def _sign_of(square, pan, poise, quotient):
    """Return what sinks as a load with this square lies on the pan."""
    against = times(poise, poise)
    if pan == "left":
        order = compare(square, times(against, quotient))
    else:
        order = compare(times(square, quotient), against)
    if order == 0:
        return "even"
    return "load" if order > 0 else "poise"


def tightest(bounds, sign):
    """Return the bound that lets least, of some from below (sign 1) or from above (sign -1).

    Those that are None aside; None if there is no other one.
    """
    best = None
    for bound in bounds:
        if bound is not None:
            order = 1 if best is None else sign * compare(bound[0], best[0])
            if order > 0 or (order == 0 and not bound[1]):
                best = bound
    return best


def clash_of(low, high):
    """Return the numbers of the readings of both bounds if they let nothing, else None."""
    if low is None or high is None:
        return None
    order = compare(low[0], high[0])
    if order < 0 or (order == 0 and low[1] and high[1]):
        return None
    return tuple(sorted(set([*low[2], *high[2]])))


def _between(low, high):
    """Return a ratio above 0 that both bounds let; there is one."""
    if high is None:
        return ONE if low is None else plus(low[0], ONE)
    return over(high[0] if low is None else plus(low[0], high[0]), TWO)


def _scaled(bound, size):
    """Return the bound multiplied by a ratio above 0."""
    return None if bound is None else (times(bound[0], size), bound[1], bound[2])


def _squared(bound):
    return None if bound is None else _scaled(bound, bound[0])


def _turned(bound):
    """Return the bound of 1 divided by what is bounded."""
    return None if bound is None else (over(ONE, bound[0]), bound[1], bound[2])


def _quotient(one, other):
    """Return the bound that two bounds set to a quotient, None if one of them is None."""
    if one is None or other is None:
        return None
    return (over(one[0], other[0]), one[1] and other[1], (*one[2], *other[2]))


def _poise_bounds(readings, load, pan):
    """Return (low, high): the bounds that the readings set to the poise of the load on the pan."""
    lows = []
    highs = []
    for number, (own, side, poise, sign) in enumerate(readings):
        if own == load and side == pan:
            bound = (poise, sign == "even", (number,))
            if sign != "poise":
                lows.append(bound)
            if sign != "load":
                highs.append(bound)
    return (tightest(lows, 1), tightest(highs, -1))


def limits_of(many, readings):
    """Return the limits of all loads, as a list."""
    limits = []
    for load in range(many):
        left = _poise_bounds(readings, load, "left")
        limits.append((*left, *_poise_bounds(readings, load, "right")))
    return limits


def arms_bounds(limits):
    """Return (low, high): the bounds of the square of the quotient of the pans."""
    low = tightest([_quotient(right_low, left_high) for _, left_high, right_low, _ in limits], 1)
    high = tightest([_quotient(right_high, left_low) for left_low, _, _, right_high in limits], -1)
    return (low, high)


def clash_in(limits):
    """Return the numbers of readings that no case keeps together, None if some case keeps all."""
    pairs = []
    for left_low, left_high, right_low, right_high in limits:
        pairs.append((left_low, left_high))
        pairs.append((right_low, right_high))
    for low, high in [*pairs, arms_bounds(limits)]:
        numbers = clash_of(low, high)
        if numbers is not None:
            return numbers
    return None


def _square_between(limit, quotient):
    """Return a square that the limits of a load let with this square of the pans' quotient."""
    left_low, left_high, right_low, right_high = limit
    turned = over(ONE, quotient)
    low = tightest([_scaled(_squared(left_low), quotient), _scaled(_squared(right_low), turned)], 1)
    high = tightest([_scaled(_squared(left_high), quotient), _scaled(_squared(right_high), turned)], -1)
    return _between(low, high)


def case_between(limits, low, high):
    """Return a case in which the square of the pans' quotient is between the two bounds."""
    quotient = _between(low, high)
    return PansCase(tuple([_square_between(limit, quotient) for limit in limits]), quotient)


def arms_bounds_with(limit, square):
    """Return (low, high): the bounds of the square of the pans' quotient if a load has this square."""
    left_low, left_high, right_low, right_high = limit
    turned = over(ONE, square)
    low = tightest([_scaled(_turned(_squared(left_high)), square), _scaled(_squared(right_low), turned)], 1)
    high = tightest([_scaled(_turned(_squared(left_low)), square), _scaled(_squared(right_high), turned)], -1)
    return (low, high)


def fitting_case(many, rows):
    """Return a case that keeps all readings, or NoCase."""
    limits = limits_of(many, check_readings(many, rows))
    numbers = clash_in(limits)
    if numbers is not None:
        return NoCase(numbers)
    low, high = arms_bounds(limits)
    return case_between(limits, low, high)
