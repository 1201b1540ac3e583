"""Powers and roots of whole numbers and ratios, for exponents of any size."""


def power_of(number, exponent):
    """Return the whole number to a power from 0 on."""
    found = 1
    while exponent > 0:
        if exponent & 1:
            found = found * number
        number = number * number
        exponent = exponent // 2
    return found


def raised(ratio, power):
    """Return a ratio above 0 to a power that may be below 0."""
    # Powers of a ratio in lowest terms are in lowest terms.
    top, bottom = ratio if power > 0 else ratio[::-1]
    return (power_of(top, abs(power)), power_of(bottom, abs(power)))


def root_of(ratio, degree):
    """Return the ratio whose power of this degree, 1 or more, a ratio above 0 is; None without one."""
    top = _whole_root(ratio[0], degree)
    bottom = _whole_root(ratio[1], degree)
    return None if top is None or bottom is None else (top, bottom)


def _whole_root(number, degree):
    low = 1
    high = 1 << (number.bit_length() // degree + 1)
    # The power of the low one is at most the number, that of the high one is above it.
    while high - low > 1:
        middle = (low + high) // 2
        if power_of(middle, degree) > number:
            high = middle
        else:
            low = middle
    return low if power_of(low, degree) == number else None
