"""Powers and roots of whole numbers and ratios, for exponents of any size."""

from math import gcd


def power_of(number, exponent):
    """Return the whole number to a power from 0 on."""
    found = 1
    while exponent > 0:
        if exponent & 1:
            found = found * number
        number = number * number
        exponent = exponent // 2
    return found


def raised(ratio, power):
    """Return a ratio above 0 to a power that may be below 0."""
    # Powers of a ratio in lowest terms are in lowest terms.
    top, bottom = ratio if power > 0 else ratio[::-1]
    return (power_of(top, abs(power)), power_of(bottom, abs(power)))


def root_of_product(ratios, numbers, degree):
    """Return the ratio whose power of this degree the product of ratio ** number is, or None.

    The ratios are above 0. With the degree 0 it is 1 if the product is 1, else None.
    """
    top = 1
    bottom = 1
    # The product may be too great to be worked out. As its parts have no common divisors, it is
    # such a power if each part, as often as it is in the product, is one.
    for part in _parts_of([size for ratio in ratios for size in ratio]):
        held = [_times_within(part, ratio[0]) - _times_within(part, ratio[1]) for ratio in ratios]
        often = sum([number * many for number, many in zip(numbers, held)])
        if often != 0:
            root = _root_of_part(part, often, degree)
            if root is None:
                return None
            size = power_of(root, abs(often) // gcd(often, degree))
            if often > 0:
                top = top * size
            else:
                bottom = bottom * size
    return (top, bottom)


def _parts_of(numbers):
    """Return whole numbers above 1, no two with a common divisor, whose products all these are."""
    parts = []
    queue = [number for number in numbers if number > 1]
    while queue:
        number = queue.pop()
        near = [part for part in parts if gcd(part, number) > 1]
        if near:
            common = gcd(near[0], number)
            parts = [part for part in parts if part != near[0]]
            split = [common, number // common, near[0] // common]
            queue = queue + [part for part in split if part > 1]
        else:
            parts.append(number)
    return parts


def _times_within(part, number):
    """Return how often the part, above 1, divides the number."""
    many = 0
    while number % part == 0:
        number = number // part
        many += 1
    return many


def _root_of_part(part, often, degree):
    """Return the root of the part that is needed for the root of part ** often, or None."""
    return None if degree == 0 else _whole_root(part, degree // gcd(often, degree))


def _whole_root(number, degree):
    """Return the whole number whose power of this degree a number above 0 is, or None."""
    low = 1
    high = 1 << (number.bit_length() // degree + 1)
    # The power of the low one is at most the number, that of the high one is above it.
    while high - low > 1:
        middle = (low + high) // 2
        if power_of(middle, degree) > number:
            high = middle
        else:
            low = middle
    return low if power_of(low, degree) == number else None
