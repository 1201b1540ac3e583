"""How one to three places make up a point: what pushes, swaps and planes are reckoned from."""

from wherelaid.places import cross_of
from wherelaid.ratios import ONE, ZERO, minus, over, plus, times


def way_to(start, goal):
    """Return the couple of what leads from one point to the other."""
    return (minus(goal[0], start[0]), minus(goal[1], start[1]))


def dot_of(one, two):
    """Return the sum of the products, entry by entry, of two couples of ratios."""
    return plus(times(one[0], two[0]), times(one[1], two[1]))


def shares_at(corners, point):
    """Return the shares, with the sum 1, with which the corners make up the point.

    The corners are one place, two, or three that are not in a row; then there is one such tuple
    or none. None if the point does not lie at the place, in the row or, for three, ever.
    """
    if len(corners) == 1:
        return (ONE,) if corners[0] == point else None
    if len(corners) == 2:
        return _shares_of_two(corners[0], corners[1], point)
    one, two, three = corners
    whole = cross_of(one, two, three)
    return (
        over(cross_of(point, two, three), whole),
        over(cross_of(one, point, three), whole),
        over(cross_of(one, two, point), whole),
    )


def _shares_of_two(one, two, point):
    if cross_of(one, two, point) != ZERO:
        return None
    way = way_to(one, two)
    part = over(dot_of(way, way_to(one, point)), dot_of(way, way))
    return (minus(ONE, part), part)
