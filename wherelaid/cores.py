"""Legs that never show, and scales with the same ranges: points 6.11 and 6.12."""

from wherelaid.hidden import is_hidden, legs_alone, skins_of_others
from wherelaid.hulls import first_beyond
from wherelaid.places import check_leg
from wherelaid.ratios import compare
from wherelaid.skins import skin_at


class Shows:
    """Where a leg shows, and the skins of the other legs there, None for a corner."""

    def __init__(self, place, low, high):
        self.place = place
        self.low = low
        self.high = high

    def __eq__(self, other):
        return (isinstance(other, Shows) and self.place == other.place and self.low == other.low
                and self.high == other.high)


def shows_at(scale, leg):
    """Return None if the leg never shows, else Shows."""
    check_leg(scale, leg)
    if not is_hidden(scale, leg):
        return Shows(scale.places[leg], None, None)
    low, high = skins_of_others(scale, leg)
    factor = scale.factors[leg]
    if compare(low, factor) <= 0 and compare(factor, high) <= 0:
        return None
    return Shows(scale.places[leg], low, high)


def showing_legs(scale):
    """Return the legs that show, ascending."""
    return tuple([leg for leg in range(len(scale)) if shows_at(scale, leg) is not None])


def core_of(scale):
    """Return the Plain of the legs that show, which has the same range for all loads."""
    return legs_alone(scale, showing_legs(scale))


def unlike_at(scale, other):
    """Return None if both scales have the same ranges, else a place where they are unlike."""
    place = _first_unlike(scale, other)
    return _first_unlike(other, scale) if place is None else place


def _first_unlike(scale, other):
    """Return the place of the first leg whose factor the other scale cannot show there, or None."""
    for place, factor in zip(scale.places, scale.factors):
        if first_beyond(other.places, place) is not None:
            return place
        if compare(factor, skin_at(other, place, False)) < 0:
            return place
        if compare(factor, skin_at(other, place, True)) > 0:
            return place
    return None
