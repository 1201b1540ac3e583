"""Letters for unknown ratios, their values, and monomials of them: points 4.1 and 4.2."""

from wherelaid.errors import BadMonomial, BadValues
from wherelaid.powers import raised
from wherelaid.ratios import is_above_zero, is_whole, over, times
from wherelaid.sequences import is_couple, is_sequence

LETTERS = ("a", "b", "c", "d", "e", "f", "g", "h")
MOST_POWER = 100


def is_letter(thing):
    """Whether the thing is a letter."""
    return thing in LETTERS


def check_values(letters, values):
    """Return the values, one for each of the letters, ascending by letter, or raise BadValues."""
    if not is_sequence(values):
        raise BadValues(0, "many")
    sizes = {}
    for index, value in enumerate(values):
        if not is_couple(value):
            raise BadValues(index, "value")
        letter, size = value
        if not is_letter(letter) or letter not in letters:
            raise BadValues(index, "letter")
        if not is_above_zero(size):
            raise BadValues(index, "size")
        if letter in sizes:
            raise BadValues(index, "twice")
        sizes[letter] = size
    for index, letter in enumerate(sorted(letters)):
        if letter not in sizes:
            raise BadValues(index, "missing")
    return tuple([(letter, sizes[letter]) for letter in sorted(letters)])


class Monomial:
    """A number times powers of letters."""

    def __init__(self, number, powers=()):
        if not is_above_zero(number):
            raise BadMonomial(0, "number")
        self.number = number
        self.powers = _checked_powers(powers)

    def __eq__(self, other):
        return (isinstance(other, Monomial) and self.number == other.number
                and self.powers == other.powers)


def _checked_powers(powers):
    """Return the powers ascending by letter, without those that are 0, or raise BadMonomial."""
    if not is_sequence(powers):
        raise BadMonomial(0, "powers")
    found = {}
    for index, couple in enumerate(powers):
        if not is_couple(couple):
            raise BadMonomial(index, "power")
        letter, power = couple
        if not is_letter(letter):
            raise BadMonomial(index, "letter")
        if not is_whole(power, -MOST_POWER, MOST_POWER):
            raise BadMonomial(index, "whole")
        if letter in found:
            raise BadMonomial(index, "twice")
        found[letter] = power
    return tuple([(letter, found[letter]) for letter in sorted(found) if found[letter] != 0])


def power_in(monomial, letter):
    """Return the power of the letter, 0 for a letter that does not occur."""
    for own, power in monomial.powers:
        if own == letter:
            return power
    return 0


def size_at(monomial, values):
    """Return the number times each letter's value to its power."""
    checked = check_values([letter for letter, _ in monomial.powers], values)
    size = monomial.number
    # Both are ascending by letter, with the same letters.
    for letter_power, letter_value in zip(monomial.powers, checked):
        size = times(size, raised(letter_value[1], letter_power[1]))
    return size


def multiply(monomial, other):
    """Return the product of two monomials."""
    return Monomial(times(monomial.number, other.number), _joined_powers(monomial, other, 1))


def divide(monomial, other):
    """Return the quotient of two monomials."""
    return Monomial(over(monomial.number, other.number), _joined_powers(monomial, other, -1))


def _joined_powers(monomial, other, sign):
    """Return the powers of the first monomial plus `sign` times those of the other one."""
    return [(letter, power_in(monomial, letter) + sign * power_in(other, letter)) for letter in LETTERS]
