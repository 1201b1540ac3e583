"""The hull of the legs' places, its corners and its sides: points 2.1 to 2.3 and 2.7."""

from wherelaid.errors import BeyondSide
from wherelaid.places import check_place, check_places, cross_of, in_row, turn_place
from wherelaid.ratios import ascending, compare, coprime_of
from wherelaid.shares import dot_of, way_to


class Side:
    """One side of a hull: on it, and in the hull, normal * place is at least `least`."""

    def __init__(self, normal, least, legs):
        self.normal = normal
        self.least = least
        self.legs = legs

    def __eq__(self, other):
        return (isinstance(other, Side) and self.normal == other.normal
                and self.least == other.least and self.legs == other.legs)


def corner_points(points):
    """Return the corners of the hull of one or more places, counterclockwise from the least on."""
    rows = ascending(points)
    if len(rows) == 1:
        return tuple(rows)
    there = _left_turns(rows)
    back = _left_turns(rows[::-1])
    return tuple(there[:-1] + back[:-1])


def _left_turns(rows):
    """Return the way from the first to the last row that keeps all others to its left."""
    way = []
    for row in rows:
        while len(way) > 1 and cross_of(way[-2], way[-1], row)[0] <= 0:
            way.pop()
        way.append(row)
    return way


def hull_of(places):
    """Return the numbers of all corners, counterclockwise, beginning with the least number."""
    return corners_of(check_places(places))


def corners_of(places):
    """Return what hull_of returns, for places that are checked already."""
    numbers = [places.index(point) for point in corner_points(places)]
    first = numbers.index(min(numbers))
    return tuple(numbers[first:] + numbers[:first])


def sides_of(places):
    """Return the sides in the order of the corners; behind them, in a row, the two ends."""
    return sides_around(check_places(places))


def sides_around(places):
    """Return what sides_of returns, for places that are checked already."""
    corners = corners_of(places)
    goals = corners[1:] + corners[:1]
    ways = [way_to(places[leg], places[goal]) for leg, goal in zip(corners, goals)]
    sides = [_side_at(places, leg, turn_place(way)) for leg, way in zip(corners, ways)]
    if len(corners) == 2:
        sides = sides + [_side_at(places, leg, way) for leg, way in zip(corners, ways)]
    return tuple(sides)


def _side_at(places, leg, way):
    """Return the side through the leg whose normal points this way."""
    normal = coprime_of(way)
    least = height_over(normal, places[leg])
    legs = [other for other in range(len(places)) if height_over(normal, places[other]) == least]
    return Side(normal, least, tuple(legs))


def height_over(normal, point):
    """Return nx * x + ny * y for the normal of a side."""
    return dot_of([(number, 1) for number in normal], point)


def lies_beyond(side, point):
    """Whether the point is beyond the side."""
    return compare(height_over(side.normal, point), side.least) < 0


def first_beyond(places, point):
    """Return the first side that the point is beyond, or None; neither is checked."""
    for side in sides_around(places):
        if lies_beyond(side, point):
            return side
    return None


def check_within(places, point):
    """Return the point, or raise BeyondSide; neither is checked otherwise."""
    side = first_beyond(places, point)
    if side is not None:
        raise BeyondSide(side)
    return point


def side_beyond(places, place):
    """Return the first side that the place is beyond, or None."""
    rows = check_places(places)
    return first_beyond(rows, check_place(place))


def is_within(places, place):
    """Whether the place lies in the hull."""
    return side_beyond(places, place) is None


def bearing_legs(places, place):
    """Return the lot of the legs that some pushes for a weight at the place push."""
    rows = check_places(places)
    point = check_within(rows, check_place(place))
    on = [side for side in sides_around(rows) if height_over(side.normal, point) == side.least]
    return tuple([leg for leg in range(len(rows)) if all([leg in side.legs for side in on])])


def one_way(places, place):
    """Whether the legs share a weight at the place in one way only."""
    bearing = bearing_legs(places, place)
    if len(bearing) < 3:
        return True
    return len(bearing) == 3 and not in_row([places[leg] for leg in bearing])
