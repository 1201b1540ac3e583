"""Levers, scales and plain scales, and the factors of their legs: points 1.5 and 1.6."""

from wherelaid.errors import BadLever, BadPlain, BadScale
from wherelaid.places import LEAST_LEGS, MOST_LEGS, wrong_place
from wherelaid.ratios import ONE, is_arm_size, is_factor, is_whole, over, times
from wherelaid.sequences import is_couple, is_sequence

MOST_LEVERS = 6


class Lever:
    """One lever: its out arm, and for all but the beam the lever above and the inward arm there."""

    def __init__(self, out, above=None, inward=None):
        if not is_arm_size(out):
            raise BadLever("out")
        if above is not None and not is_whole(above, 0, MOST_LEVERS - 2):
            raise BadLever("above")
        if not (inward is None if above is None else is_arm_size(inward)):
            raise BadLever("inward")
        self.out = out
        self.above = above
        self.inward = inward

    def __eq__(self, other):
        return (isinstance(other, Lever) and self.out == other.out
                and self.above == other.above and self.inward == other.inward)


class Scale:
    """A scale whose levers, legs and places are known."""

    def __init__(self, levers, legs, places):
        _check_levers(levers)
        _check_legs(legs, len(levers))
        _check_scale_places(places, len(legs))
        self.levers = tuple(levers)
        self.legs = tuple([tuple(leg) for leg in legs])
        self.places = tuple([tuple(place) for place in places])
        self._factors = _factors_of(self.levers, self.legs)

    @property
    def factors(self):
        """The tuple of the factors of all legs."""
        return self._factors

    def __len__(self):
        return len(self.legs)

    def __eq__(self, other):
        return (isinstance(other, Scale) and self.levers == other.levers
                and self.legs == other.legs and self.places == other.places)


class Plain:
    """A scale of which only the places and the factors of the legs are known."""

    def __init__(self, places, factors):
        _check_plain_places(places)
        _check_factors(factors, len(places))
        self.places = tuple([tuple(place) for place in places])
        self._factors = tuple(factors)

    @property
    def factors(self):
        """The tuple of the factors of all legs."""
        return self._factors

    def __len__(self):
        return len(self.places)

    def __eq__(self, other):
        return (isinstance(other, Plain) and self.places == other.places
                and self.factors == other.factors)


def _check_levers(levers):
    if not is_sequence(levers, 1, MOST_LEVERS):
        raise BadScale(0, "levers")
    if not all([isinstance(lever, Lever) for lever in levers]):
        raise BadScale(0, "levers")
    for number, lever in enumerate(levers):
        if not _stands_right(lever.above, number):
            raise BadScale(number, "above")


def _stands_right(above, number):
    """Whether a lever of this number may have the lever `above`, None for none, above it."""
    if number == 0:
        return above is None
    return above is not None and above < number


def _check_legs(legs, levers):
    """Check the legs of a scale with so many levers."""
    if not is_sequence(legs, LEAST_LEGS, MOST_LEGS):
        raise BadScale(0, "legs")
    for index, leg in enumerate(legs):
        if not is_couple(leg):
            raise BadScale(index, "leg")
        if not is_whole(leg[0], 0, levers - 1):
            raise BadScale(index, "lever")
        if not is_arm_size(leg[1]):
            raise BadScale(index, "seat")


def _check_scale_places(places, many):
    if not is_sequence(places, many, many):
        raise BadScale(0, "places")
    wrong = wrong_place(places)
    if wrong is not None:
        index, what = wrong
        raise BadScale(index, what)


def _check_plain_places(places):
    if not is_sequence(places, LEAST_LEGS, MOST_LEGS):
        raise BadPlain(0, "places")
    wrong = wrong_place(places)
    if wrong is not None:
        index, what = wrong
        raise BadPlain(index, what)


def _check_factors(factors, many):
    if not is_sequence(factors, many, many):
        raise BadPlain(0, "factors")
    for index, factor in enumerate(factors):
        if not is_factor(factor):
            raise BadPlain(index, "factor")


def _factors_of(levers, legs):
    # What a pull of 1 at the arm 1 of each lever makes the beam show. The lever above comes
    # first, for its number is less.
    shows = []
    for lever in levers:
        if lever.above is None:
            shows.append(over(ONE, lever.out))
        else:
            shows.append(times(over(lever.inward, lever.out), shows[lever.above]))
    return tuple([times(seat, shows[lever]) for lever, seat in legs])


def plain_of(scale):
    """Return the Plain with the places and factors of a scale of either class."""
    return Plain(scale.places, scale.factors)


def placed_at(scale, places):
    """Return the scale, of the same class, with its legs under other places."""
    if isinstance(scale, Plain):
        return Plain(places, scale.factors)
    return Scale(scale.levers, scale.legs, places)
