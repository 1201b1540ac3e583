"""Planes over the places, each a tuple (a, b, c) with the height a + b * x + c * y."""

from wherelaid.places import cross_of
from wherelaid.ratios import is_ratio, minus, over, times
from wherelaid.shares import dot_of, way_to


def is_plane(thing):
    """Whether the thing is a tuple of three ratios."""
    return isinstance(thing, tuple) and len(thing) == 3 and all([is_ratio(part) for part in thing])


def plane_through(corners, heights):
    """Return the plane with these heights at two places, or at three that are not in a row.

    Over two places it rises along their row only.
    """
    slope = _slope_of_two(corners, heights) if len(corners) == 2 else _slope_of_three(corners, heights)
    return (minus(heights[0], dot_of(slope, corners[0])), slope[0], slope[1])


def _slope_of_two(corners, heights):
    across, along = way_to(corners[0], corners[1])
    rise = over(minus(heights[1], heights[0]), dot_of((across, along), (across, along)))
    return (times(rise, across), times(rise, along))


def _slope_of_three(corners, heights):
    # By Cramer's rule: the heights in the place of one coordinate.
    whole = cross_of(corners[0], corners[1], corners[2])
    one, two, three = [(height, place[1]) for height, place in zip(heights, corners)]
    across = over(cross_of(one, two, three), whole)
    one, two, three = [(place[0], height) for height, place in zip(heights, corners)]
    return (across, over(cross_of(one, two, three), whole))
