"""Places, and how they are checked and led along: points 1.3, 1.4 and `check_leg` of 1.6."""

from wherelaid.errors import BadPlace, BadPlaces, NoLeg
from wherelaid.ratios import ZERO, is_coordinate, is_ratio, is_whole, minus, negative, plus, times
from wherelaid.sequences import is_couple, is_sequence

LEAST_LEGS = 2
MOST_LEGS = 6


def is_place(thing):
    """Whether the thing is a sequence of two coordinates."""
    return is_couple(thing) and is_coordinate(thing[0]) and is_coordinate(thing[1])


def is_point(thing):
    """Whether the thing is a tuple of two ratios, of any size."""
    return isinstance(thing, tuple) and len(thing) == 2 and all([is_ratio(part) for part in thing])


def check_place(place):
    """Return the place as a tuple, or raise BadPlace."""
    if not is_place(place):
        raise BadPlace(place)
    return tuple(place)


def wrong_place(places):
    """Return the couple (index, word) of the first entry that is no place or stands there twice.

    None if there is no such entry. The constructors of scales raise errors of their own for it.
    """
    earlier = []
    for index, place in enumerate(places):
        if not is_place(place):
            return (index, "place")
        if tuple(place) in earlier:
            return (index, "twice")
        earlier.append(tuple(place))
    return None


def check_places(places):
    """Return 2 to 6 unlike places as a tuple of tuples, or raise BadPlaces."""
    if not is_sequence(places, LEAST_LEGS, MOST_LEGS):
        raise BadPlaces(0, "many")
    wrong = wrong_place(places)
    if wrong is not None:
        index, what = wrong
        raise BadPlaces(index, what)
    return tuple([tuple(place) for place in places])


def check_leg(legs, leg):
    """Return the leg, or raise NoLeg; `legs` is a scale or a sequence of places."""
    if not is_whole(leg, 0, len(legs) - 1):
        raise NoLeg(leg)
    return leg


def shift_place(place, by):
    """Return the place moved by both coordinates of `by`."""
    return (plus(place[0], by[0]), plus(place[1], by[1]))


def turn_place(place):
    """Return the place turned counterclockwise by a right angle."""
    return (negative(place[1]), place[0])


def mirror_place(place):
    """Return the place with the other sign of x."""
    return (negative(place[0]), place[1])


def stretch_place(place, size):
    """Return the place with both coordinates multiplied by the size."""
    return (times(place[0], size), times(place[1], size))


def cross_of(one, two, three):
    """Return the cross product of the ways from the first place to the two others."""
    rise = times(minus(two[0], one[0]), minus(three[1], one[1]))
    fall = times(minus(two[1], one[1]), minus(three[0], one[0]))
    return minus(rise, fall)


def in_row(places):
    """Whether all of some unlike places lie on one straight line."""
    return all([cross_of(places[0], places[1], place) == ZERO for place in places[2:]])
