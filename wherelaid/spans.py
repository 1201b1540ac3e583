"""From where to where squares and quotients lie in all cases that keep readings: point 9.9."""

from wherelaid.errors import BadSquare, NoLoad
from wherelaid.ratios import (
    ONE, ZERO, greatest_of, is_above_zero, is_whole, least_of, over, times,
)
from wherelaid.readings import (
    NoCase, PansCase, arms_bounds, arms_bounds_with, case_between, check_readings, clash_in, clash_of,
    limits_of, tightest,
)


class Span:
    """A quantity is from `least` to `greatest`, None where there is no bound above."""

    def __init__(self, least, greatest):
        self.least = least
        self.greatest = greatest

    def __eq__(self, other):
        return (isinstance(other, Span) and self.least == other.least
                and self.greatest == other.greatest)


def check_load(many, load):
    """Return the load, or raise NoLoad if it is not the number of one of so many."""
    if not is_whole(load, 0, many - 1):
        raise NoLoad(load)
    return load


def span_between(low, high):
    """Return the Span between two bounds as readings set them."""
    return Span(ZERO if low is None else low[0], None if high is None else high[0])


def _sizes_of(bounds):
    """Return the ratios of bounds, None where there is no bound, as a list."""
    return [None if bound is None else bound[0] for bound in bounds]


def _product(sizes):
    """Return the product, None if one of them is None."""
    product = ONE
    for size in sizes:
        if size is None:
            return None
        product = times(product, size)
    return product


def _turned(size):
    return None if size is None else over(ONE, size)


def _greatest_known(sizes):
    """Return the greatest of those that are not None, 0 if there are none."""
    return greatest_of([ZERO, *[size for size in sizes if size is not None]])


def _least_known(sizes):
    """Return the least of those that are not None, None if there are none."""
    known = [size for size in sizes if size is not None]
    return least_of(known) if known else None


def square_span(many, rows, load):
    """Return the Span of the square of a load's weight, or NoCase."""
    limits = limits_of(many, check_readings(many, rows))
    check_load(many, load)
    numbers = clash_in(limits)
    if numbers is not None:
        return NoCase(numbers)
    low, high = _sizes_of(arms_bounds(limits))
    left_low, left_high, right_low, right_high = _sizes_of(limits[load])
    lows = [
        _product([left_low, right_low]), _product([left_low, left_low, low]),
        _product([right_low, right_low, _turned(high)]),
    ]
    highs = [
        _product([left_high, right_high]), _product([left_high, left_high, high]),
        _product([right_high, right_high, _turned(low)]),
    ]
    return Span(_greatest_known(lows), _least_known(highs))


def arms_span(many, rows):
    """Return the Span of the square of the pans' quotient, or NoCase."""
    limits = limits_of(many, check_readings(many, rows))
    numbers = clash_in(limits)
    if numbers is not None:
        return NoCase(numbers)
    low, high = arms_bounds(limits)
    return span_between(low, high)


def quotient_span(many, rows, load, other):
    """Return the Span of the weight of a load divided by that of another one, or NoCase."""
    limits = limits_of(many, check_readings(many, rows))
    check_load(many, load)
    check_load(many, other)
    numbers = clash_in(limits)
    if numbers is not None:
        return NoCase(numbers)
    if load == other:
        return Span(ONE, ONE)
    arms = _sizes_of(arms_bounds(limits))
    least = _least_quotient(_sizes_of(limits[load]), _sizes_of(limits[other]), arms)
    turned = _least_quotient(_sizes_of(limits[other]), _sizes_of(limits[load]), arms)
    return Span(least, None if turned == ZERO else over(ONE, turned))


def _least_quotient(one, other, arms):
    """Return what the quotient of two loads is at least, by the ratios of their limits."""
    left_low, _, right_low, _ = one
    _, left_high, _, right_high = other
    low, high = arms
    return _greatest_known([
        _product([left_low, _turned(left_high)]), _product([right_low, _turned(right_high)]),
        _product([left_low, low, _turned(right_high)]),
        _product([right_low, _turned(high), _turned(left_high)]),
    ])


def case_of_square(many, rows, load, square):
    """Return a case that keeps the readings and in which the load has this square, or None."""
    limits = limits_of(many, check_readings(many, rows))
    check_load(many, load)
    if not is_above_zero(square):
        raise BadSquare(square)
    own_low, own_high = arms_bounds_with(limits[load], square)
    low, high = arms_bounds(limits)
    low = tightest([low, own_low], 1)
    high = tightest([high, own_high], -1)
    if clash_in(limits) is not None or clash_of(low, high) is not None:
        return None
    case = case_between(limits, low, high)
    squares = [square if number == load else case.squares[number] for number in range(many)]
    return PansCase(tuple(squares), case.quotient)
