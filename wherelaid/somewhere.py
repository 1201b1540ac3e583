"""Whether some sizes of the unknown arms make a scale even: points 4.7 and 4.8."""

from wherelaid.castings import factors_at, monomials_of, values_or_none
from wherelaid.diagonals import diagonal_of
from wherelaid.monomials import power_in
from wherelaid.powers import raised, root_of_product
from wherelaid.ratios import ONE, is_whole, times
from wherelaid.sequences import is_sequence


class NeverEven:
    """What shows that no values make all factors equal: a product that is no such power."""

    def __init__(self, numbers, power):
        self.numbers = numbers
        self.power = power

    def __eq__(self, other):
        return (isinstance(other, NeverEven) and self.numbers == other.numbers
                and self.power == other.power)


def even_somewhere(casting):
    """Return values with which all factors are equal, or a NeverEven if there are none."""
    letters = casting.letters
    monomials = monomials_of(casting)
    rows = []
    for monomial in monomials[1:]:
        rows.append([power_in(monomial, one) - power_in(monomials[0], one) for one in letters])
    pivots, mixes, ways = diagonal_of(rows, len(letters))
    roots = []
    for pivot, mix in zip(pivots, mixes):
        root = _root_for(monomials, _summed_to_zero(mix, 0), pivot)
        if root is None:
            return NeverEven(_summed_to_zero(mix, abs(pivot)), abs(pivot))
        roots.append(root)
    return tuple([(letter, _mixed(roots, way)) for letter, way in zip(letters, ways)])


def _summed_to_zero(mix, power):
    """Return a number for each leg, with the sum 0: those of the later legs are in the mix.

    They are made as near to 0 as can be by multiples of the power, which change nothing about
    the product's being a power of this degree.
    """
    if power > 0:
        mix = [(number + power // 2) % power - power // 2 for number in mix]
    return (-sum(mix), *mix)


def _root_for(monomials, numbers, pivot):
    """Return the ratio whose power by the pivot makes the product of monomial ** number 1, or None."""
    sizes = [monomial.number for monomial in monomials]
    wanted = [-number if pivot > 0 else number for number in numbers]
    return root_of_product(sizes, wanted, abs(pivot))


def _mixed(roots, way):
    """Return the product of root ** number; unknowns beyond the roots may be 1."""
    product = ONE
    for root, number in zip(roots, way):
        product = times(product, raised(root, number))
    return product


def somewhere_fault(casting, told):
    """Judge whether the thing is what even_somewhere may return, or as good."""
    if isinstance(told, NeverEven):
        return _certificate_fault(monomials_of(casting), casting.letters, told)
    values = values_or_none(casting, told)
    if values is None:
        return "values"
    factors = factors_at(casting, values)
    return None if factors == factors[:1] * len(factors) else "unlike"


def _certificate_fault(monomials, letters, told):
    """Return what is wrong with a NeverEven, or None."""
    if not is_sequence(told.numbers, len(monomials), len(monomials)):
        return "numbers"
    if not all([is_whole(number) for number in told.numbers]) or sum(told.numbers) != 0:
        return "numbers"
    if not is_whole(told.power, 0) or told.power == 1:
        return "power"
    for letter in letters:
        powers = [power_in(monomial, letter) for monomial in monomials]
        whole = sum([number * power for number, power in zip(told.numbers, powers)])
        if not _is_multiple(whole, told.power):
            return "letters"
    return None if _root_for(monomials, told.numbers, told.power) is None else "root"


def _is_multiple(number, power):
    return number == 0 if power == 0 else number % power == 0
