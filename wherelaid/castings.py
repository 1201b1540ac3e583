"""Castings: scales some of whose arms have unknown sizes (points 4.3 and 4.4)."""

from wherelaid.arms import arm_size, arms_of, is_arm, way_of, with_sizes
from wherelaid.errors import BadCasting, BadValues, NoLetter
from wherelaid.monomials import Monomial, check_values, is_letter, power_in, size_at
from wherelaid.ratios import ONE, check_size, is_arm_size, over, times
from wherelaid.sequences import is_couple, is_sequence


class Casting:
    """A scale some of whose arms bear letters; what sizes it has there means nothing."""

    def __init__(self, scale, rows):
        self.scale = scale
        self.rows = _checked_rows(scale, rows)
        self._letters = tuple(sorted(set([letter for _, letter in self.rows])))

    @property
    def letters(self):
        """The unlike letters, ascending."""
        return self._letters

    def __eq__(self, other):
        return isinstance(other, Casting) and self.scale == other.scale and self.rows == other.rows


def _checked_rows(scale, rows):
    """Return the couples (arm, letter) in the order of arms_of, or raise BadCasting."""
    if not is_sequence(rows):
        raise BadCasting(0, "rows")
    letters = {}
    for index, row in enumerate(rows):
        if not is_couple(row):
            raise BadCasting(index, "row")
        arm, letter = row
        if not is_arm(scale, arm):
            raise BadCasting(index, "arm")
        if not is_letter(letter):
            raise BadCasting(index, "letter")
        if tuple(arm) in letters:
            raise BadCasting(index, "twice")
        letters[tuple(arm)] = letter
    return tuple([(arm, letters[arm]) for arm in arms_of(scale) if arm in letters])


def monomial_of(casting, leg):
    """Return the factor of the leg as a Monomial."""
    letters = {arm: letter for arm, letter in casting.rows}
    number = ONE
    powers = {}
    for arm, power in way_of(casting.scale, leg):
        if arm in letters:
            letter = letters[arm]
            powers[letter] = powers.get(letter, 0) + power
        else:
            size = arm_size(casting.scale, arm)
            number = times(number, size) if power > 0 else over(number, size)
    return Monomial(number, list(powers.items()))


def monomials_of(casting):
    """Return the monomials of all legs, as a list."""
    return [monomial_of(casting, leg) for leg in range(len(casting.scale))]


def size_among(monomial, values):
    """Return the size of the monomial at values that may be those of more letters; no check."""
    return size_at(monomial, [value for value in values if power_in(monomial, value[0]) != 0])


def factors_at(casting, values):
    """Return the factors of all legs at values of any size; checks nothing."""
    return tuple([size_among(monomial, values) for monomial in monomials_of(casting)])


def values_or_none(casting, thing):
    """Return the thing as values for all letters of the casting, None if check_values refuses it."""
    try:
        return check_values(casting.letters, thing)
    except BadValues:
        return None


def scale_at(casting, values):
    """Return the scale in which each arm with a letter has the letter's value."""
    checked = check_values(casting.letters, values)
    for index, (_, size) in enumerate(checked):
        if not is_arm_size(size):
            raise BadValues(index, "size")
    sizes = {letter: size for letter, size in checked}
    return with_sizes(casting.scale, {arm: sizes[letter] for arm, letter in casting.rows})


def fix_letter(casting, letter, size):
    """Return the casting in which the arms of the letter have this size and bear no letter."""
    if letter not in casting.letters:
        raise NoLetter(letter)
    check_size(size)
    fixed = {arm: size for arm, own in casting.rows if own == letter}
    scale = with_sizes(casting.scale, fixed)
    return Casting(scale, [row for row in casting.rows if row[1] != letter])


def common_letters(casting):
    """Return the letters of the casting that have one power, 0 also, in all monomials."""
    monomials = monomials_of(casting)
    common = []
    for letter in casting.letters:
        powers = [power_in(monomial, letter) for monomial in monomials]
        if powers == powers[:1] * len(powers):
            common.append(letter)
    return tuple(common)


def alike_legs(casting):
    """Return the lots of legs with equal monomials, in the order of their first legs."""
    monomials = monomials_of(casting)
    lots = []
    for leg, monomial in enumerate(monomials):
        if monomial not in monomials[:leg]:
            lots.append(tuple([own for own in range(len(monomials)) if monomials[own] == monomial]))
    return tuple(lots)
