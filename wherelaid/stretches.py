"""From where to where sizes lie, and factors and showings with them: 4.10, 4.11 and 4.13."""

from wherelaid.castings import factors_at, monomial_of, monomials_of, size_among
from wherelaid.errors import BadStretches, TwoWays
from wherelaid.loads import check_loads
from wherelaid.monomials import divide, is_letter, power_in
from wherelaid.places import check_leg
from wherelaid.pushes import lean_rows, tipping_side
from wherelaid.ratios import compare, greatest_of, is_arm_size, least_of, sum_of, times
from wherelaid.sequences import is_sequence
from wherelaid.skins import Tips


class Ends:
    """The least and the greatest of something, with values at which they come."""

    def __init__(self, least, greatest, low_values, high_values):
        self.least = least
        self.greatest = greatest
        self.low_values = low_values
        self.high_values = high_values

    def __eq__(self, other):
        return (isinstance(other, Ends) and self.least == other.least
                and self.greatest == other.greatest and self.low_values == other.low_values
                and self.high_values == other.high_values)


class Most:
    """The greatest showing, with values and pushes at which it comes."""

    def __init__(self, showing, at_values, pushes):
        self.showing = showing
        self.at_values = at_values
        self.pushes = pushes

    def __eq__(self, other):
        return (isinstance(other, Most) and self.showing == other.showing
                and self.at_values == other.at_values and self.pushes == other.pushes)


def check_stretches(casting, stretches):
    """Return one stretch for each letter, ascending by letter, or raise BadStretches."""
    if not is_sequence(stretches):
        raise BadStretches(0, "many")
    found = {}
    for index, stretch in enumerate(stretches):
        what = _wrong_stretch(casting.letters, stretch)
        if what is not None:
            raise BadStretches(index, what)
        if stretch[0] in found:
            raise BadStretches(index, "twice")
        found[stretch[0]] = tuple(stretch)
    for index, letter in enumerate(casting.letters):
        if letter not in found:
            raise BadStretches(index, "missing")
    return tuple([found[letter] for letter in casting.letters])


def _wrong_stretch(letters, stretch):
    """Return the first word that applies to the stretch, or None."""
    if not is_sequence(stretch, 3, 3):
        return "stretch"
    letter, low, high = stretch
    if not is_letter(letter) or letter not in letters:
        return "letter"
    if not is_arm_size(low):
        return "low"
    return None if is_arm_size(high) and compare(low, high) <= 0 else "high"


def ends_of(monomial, stretches):
    """Return the Ends of the monomial; checks nothing."""
    lows = []
    highs = []
    for letter, low, high in stretches:
        power = power_in(monomial, letter)
        lows.append((letter, high if power < 0 else low))
        highs.append((letter, high if power > 0 else low))
    return Ends(size_among(monomial, lows), size_among(monomial, highs), tuple(lows), tuple(highs))


def factor_range(casting, stretches, leg):
    """Return the Ends of the leg's factor."""
    checked = check_stretches(casting, stretches)
    return ends_of(monomial_of(casting, leg), checked)


def quotient_range(casting, stretches, leg, other):
    """Return the Ends of the leg's factor divided by that of the other leg."""
    checked = check_stretches(casting, stretches)
    check_leg(casting.scale, leg)
    check_leg(casting.scale, other)
    return ends_of(divide(monomial_of(casting, leg), monomial_of(casting, other)), checked)


def _ways_of(casting, letter):
    """Return (whether no power of the letter is below 0, whether none is above 0)."""
    powers = [power_in(monomial, letter) for monomial in monomials_of(casting)]
    return (min(powers) >= 0, max(powers) <= 0)


def showing_range(casting, stretches, loads):
    """Return the Ends of the showing of the loads, or Tips; each letter goes one way."""
    checked = check_stretches(casting, stretches)
    rows = check_loads(loads)
    lows = []
    highs = []
    for letter, low, high in checked:
        rises, falls = _ways_of(casting, letter)
        if not rises and not falls:
            raise TwoWays(letter)
        # All factors are least at one end of the stretch and greatest at the other one.
        lows.append((letter, low if rises else high))
        highs.append((letter, high if rises else low))
    side = tipping_side(casting.scale.places, rows)
    if side is not None:
        return Tips(side)
    lean = lean_rows(casting.scale.places, rows)
    least = least_of(_showings(lean, factors_at(casting, lows)))
    greatest = greatest_of(_showings(lean, factors_at(casting, highs)))
    return Ends(least, greatest, tuple(lows), tuple(highs))


def _showings(lean, factors):
    """Return the showing of each of the lean pushes, as a list."""
    showings = []
    for pushes in lean:
        showings.append(sum_of([times(factor, push) for factor, push in zip(factors, pushes)]))
    return showings


def greatest_showing(casting, stretches, loads):
    """Return the Most that the loads can show for all values, or Tips."""
    checked = check_stretches(casting, stretches)
    rows = check_loads(loads)
    side = tipping_side(casting.scale.places, rows)
    if side is not None:
        return Tips(side)
    lean = lean_rows(casting.scale.places, rows)
    tops = []
    # As a sum of monomials the showing has no peak within the stretches, but at their ends.
    for values in _end_values(casting, checked):
        showings = _showings(lean, factors_at(casting, values))
        showing = greatest_of(showings)
        tops.append(Most(showing, values, lean[showings.index(showing)]))
    greatest = greatest_of([top.showing for top in tops])
    return [top for top in tops if top.showing == greatest][0]


def _end_values(casting, stretches):
    """Return all values with each letter at an end of its stretch where some showing may peak."""
    rows = [()]
    for letter, low, high in stretches:
        rises, falls = _ways_of(casting, letter)
        ends = [high] if rises else [low] if falls else [low, high]
        rows = [(*row, (letter, end)) for row in rows for end in ends]
    return rows
