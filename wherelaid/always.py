"""Castings that are even or settled for all sizes, and arms that spoil it: 4.5, 4.6 and 4.9."""

from wherelaid.arms import arms_of, way_of
from wherelaid.castings import factors_at, monomials_of, values_or_none
from wherelaid.errors import BadAim, NotSo
from wherelaid.even import is_even
from wherelaid.monomials import divide
from wherelaid.powers import raised
from wherelaid.ratios import ONE, ZERO, is_whole, plus, times
from wherelaid.settled import is_settled
from wherelaid.swaps import basis_of, is_swap_of, sum_over

WISHES = ("even", "settled")


class FailsEven:
    """Values at which the factors of two legs are unlike."""

    def __init__(self, at_values, leg, other):
        self.at_values = at_values
        self.leg = leg
        self.other = other

    def __eq__(self, other):
        return (isinstance(other, FailsEven) and self.at_values == other.at_values
                and self.leg == other.leg and self.other == other.other)


class FailsSettled:
    """Values at which a swap changes the showing."""

    def __init__(self, at_values, swap):
        self.at_values = at_values
        self.swap = swap

    def __eq__(self, other):
        return (isinstance(other, FailsSettled) and self.at_values == other.at_values
                and self.swap == other.swap)


def always_even(casting):
    """Return None if the scale is even for all values, else a FailsEven."""
    monomials = monomials_of(casting)
    for other, monomial in enumerate(monomials):
        if monomial != monomials[0]:
            quotient = divide(monomial, monomials[0])
            return FailsEven(_parting_values(casting.letters, quotient), 0, other)
    return None


def _parting_values(letters, quotient):
    """Return values, each 1 or 2, at which the quotient is not 1; it is not 1 everywhere."""
    # With 1 for all letters it is its number; if that is 1, one of its letters makes it unlike.
    doubled = quotient.powers[0][0] if quotient.number == ONE else None
    return tuple([(letter, (2, 1) if letter == doubled else ONE) for letter in letters])


def always_settled(casting):
    """Return None if the scale is settled for all values, else a FailsSettled."""
    sizes = [(size, 1) for size in range(1, len(casting.scale) + 1)]
    return unsettled_among({letter: sizes for letter in casting.letters}, casting)


def unsettled_among(choices, casting):
    """Return a FailsSettled whose values are among the choices, or None if there is none.

    The choices are for each letter a list of one ratio, or of as many unlike ones as there are
    legs; None also tells that no values from the least to the greatest choices unsettle the scale.
    """
    for swap in basis_of(casting.scale.places):
        values = _values_apart(choices, _sums_by_powers(casting, swap))
        if values is not None:
            return FailsSettled(values, swap)
    return None


def _sums_by_powers(casting, swap):
    """Return for each row of powers the sum of number of the swap * number of the monomial.

    Sums that are 0 are left out.
    """
    sums = {}
    for number, monomial in zip(swap, monomials_of(casting)):
        grown = times((number, 1), monomial.number)
        sums[monomial.powers] = plus(sums.get(monomial.powers, ZERO), grown)
    return _without_zeros(sums)


def _without_zeros(sums):
    return {powers: size for powers, size in sums.items() if size != ZERO}


def _values_apart(choices, sums):
    """Return values among the choices at which the sum of size * powers is not 0, or None."""
    # As a sum of powers of one letter it has fewer roots above 0 than members, thus than choices;
    # so of several choices one leaves it a sum of the other letters that is not 0 everywhere.
    # Letters without a choice come first, for they alone may make it 0 everywhere.
    bound = [letter for letter in sorted(choices) if len(choices[letter]) == 1]
    found = {}
    for letter in bound + [other for other in sorted(choices) if other not in bound]:
        lefts = [(size, _put_in(sums, letter, size)) for size in choices[letter]]
        kept = [row for row in lefts if row[1]]
        if not kept:
            return None
        found[letter], sums = kept[0]
    return tuple([(letter, found[letter]) for letter in sorted(found)]) if sums else None


def _put_in(sums, letter, size):
    """Return the sums by powers of the other letters, with the size for this letter."""
    left = {}
    for powers, number in sums.items():
        power = sum([own for one, own in powers if one == letter])
        rest = tuple([couple for couple in powers if couple[0] != letter])
        left[rest] = plus(left.get(rest, ZERO), times(number, raised(size, power)))
    return _without_zeros(left)


def always_even_fault(casting, told):
    """Judge whether the thing is what always_even may return, or as good."""
    if told is None:
        return None if always_even(casting) is None else "fails"
    if not isinstance(told, FailsEven):
        return "kind"
    values = values_or_none(casting, told.at_values)
    if values is None:
        return "values"
    last = len(casting.scale) - 1
    if not is_whole(told.leg, 0, last) or not is_whole(told.other, 0, last):
        return "legs"
    factors = factors_at(casting, values)
    return "same" if factors[told.leg] == factors[told.other] else None


def always_settled_fault(casting, told):
    """Judge whether the thing is what always_settled may return, or as good."""
    if told is None:
        return None if always_settled(casting) is None else "fails"
    if not isinstance(told, FailsSettled):
        return "kind"
    values = values_or_none(casting, told.at_values)
    if values is None:
        return "values"
    if not is_swap_of(casting.scale.places, told.swap):
        return "swap"
    return "same" if sum_over(told.swap, factors_at(casting, values)) == ZERO else None


def spoiling_arms(scale, wish):
    """Return the arms whose change alone ends that the scale is even, or settled."""
    if wish not in WISHES:
        raise BadAim(wish)
    if not (is_even(scale) if wish == "even" else is_settled(scale)):
        raise NotSo(wish)
    ways = [[arm for arm, _ in way_of(scale, leg)] for leg in range(len(scale))]
    spoils = _spoils_even if wish == "even" else _spoils_settled
    return tuple([arm for arm in arms_of(scale) if spoils(scale, [arm in way for way in ways])])


def _spoils_even(scale, changed):
    """Whether an even scale is spoiled if the factors of the legs told True change in one way."""
    return any(changed) and not all(changed)


def _spoils_settled(scale, changed):
    """Whether a settled scale is spoiled if the factors of the legs told True change in one way."""
    parts = [factor if own else ZERO for own, factor in zip(changed, scale.factors)]
    return any([sum_over(swap, parts) != ZERO for swap in basis_of(scale.places)])
