"""What a scale can show for loads, and the skins of its factors: points 2.8 to 2.13."""

from wherelaid.errors import BadShowing, BeyondSide, OutOfRange
from wherelaid.hulls import Side, check_within, lies_beyond, sides_around
from wherelaid.loads import centre_of, check_loads, moment_of, total_of
from wherelaid.lots import lots_of
from wherelaid.places import check_place, in_row
from wherelaid.planes import is_plane, plane_through
from wherelaid.pushes import fit_fault, is_lean, lean_rows, showing_of, tipping_side
from wherelaid.ratios import (
    ONE, ZERO, ascending, compare, greatest_of, is_ratio, is_whole, least_of, minus, over, plus,
    times,
)
from wherelaid.sequences import is_sequence
from wherelaid.shares import dot_of


class Tips:
    """The loads tip: their centre is beyond this side."""

    def __init__(self, side):
        self.side = side

    def __eq__(self, other):
        return isinstance(other, Tips) and self.side == other.side


class Range:
    """What the beam can show, from `least` to `greatest`, each end with what shows it."""

    def __init__(self, least, greatest, low_pushes, high_pushes, low_plane, high_plane):
        self.least = least
        self.greatest = greatest
        self.low_pushes = low_pushes
        self.high_pushes = high_pushes
        self.low_plane = low_plane
        self.high_plane = high_plane

    def __eq__(self, other):
        return (isinstance(other, Range) and self.least == other.least
                and self.greatest == other.greatest and self.low_pushes == other.low_pushes
                and self.high_pushes == other.high_pushes and self.low_plane == other.low_plane
                and self.high_plane == other.high_plane)


class Piece:
    """One flat piece of a skin, with the lot of all legs at which its plane has the factor."""

    def __init__(self, legs, plane):
        self.legs = legs
        self.plane = plane

    def __eq__(self, other):
        return isinstance(other, Piece) and self.legs == other.legs and self.plane == other.plane


def height_at(plane, place):
    """Return the height a + b * x + c * y of the plane (a, b, c)."""
    return plus(plane[0], dot_of((plane[1], plane[2]), place))


def _height_under(plane, loads):
    """Return a * total + b * (sum of weight * x) + c * (sum of weight * y)."""
    return plus(times(plane[0], total_of(loads)), dot_of((plane[1], plane[2]), moment_of(loads)))


def range_of(scale, loads):
    """Return the Range of what the beam can show for the loads, or Tips."""
    rows = check_loads(loads)
    side = tipping_side(scale.places, rows)
    return _range_for(scale, rows) if side is None else Tips(side)


def _range_for(scale, loads):
    """Return the Range for checked loads that do not tip."""
    # Lean pushes are the corners of all pushes that fit, so both ends come among them.
    lean = lean_rows(scale.places, loads)
    showings = [showing_of(scale, pushes) for pushes in lean]
    least = least_of(showings)
    greatest = greatest_of(showings)
    return Range(
        least, greatest, lean[showings.index(least)], lean[showings.index(greatest)],
        _plane_with(skin_pieces(scale), loads, least),
        _plane_with(skin_pieces(scale, upper=True), loads, greatest),
    )


def _plane_with(pieces, loads, height):
    """Return the plane of the first piece that has this height under the loads."""
    return [piece.plane for piece in pieces if _height_under(piece.plane, loads) == height][0]


def range_fault(scale, loads, told):
    """Judge whether the thing is what range_of may return."""
    rows = check_loads(loads)
    if isinstance(told, Tips):
        return _tips_fault(scale, rows, told)
    if not isinstance(told, Range):
        return "kind"
    if tipping_side(scale.places, rows) is not None:
        return "tips"
    if not _are_end_pushes(scale, rows, told.low_pushes, told.least):
        return "low pushes"
    if not _are_end_pushes(scale, rows, told.high_pushes, told.greatest):
        return "high pushes"
    if not _is_end_plane(scale, rows, told.low_plane, told.least, False):
        return "low plane"
    return None if _is_end_plane(scale, rows, told.high_plane, told.greatest, True) else "high plane"


def _tips_fault(scale, loads, told):
    if tipping_side(scale.places, loads) is None:
        return "tips"
    centre = centre_of(loads)
    beyond = [side for side in sides_around(scale.places) if lies_beyond(side, centre)]
    return None if _is_side(told.side) and told.side in beyond else "side"


def _is_side(thing):
    """Whether the thing is a Side of numbers; True, though it is equal to 1, is none."""
    if not isinstance(thing, Side) or not is_ratio(thing.least):
        return False
    if not is_sequence(thing.normal) or not is_sequence(thing.legs):
        return False
    return all([is_whole(number) for number in [*thing.normal, *thing.legs]])


def _are_end_pushes(scale, loads, pushes, showing):
    """Whether these are lean pushes that fit the loads with just this showing."""
    if not is_ratio(showing) or fit_fault(scale.places, loads, pushes) is not None:
        return False
    return is_lean(scale.places, pushes) and showing_of(scale, pushes) == showing


def _is_end_plane(scale, loads, plane, height, upper):
    """Whether this is a plane on the right side of all factors with this height under the loads."""
    if not is_plane(plane) or _legs_at(scale, plane, upper) is None:
        return False
    return _height_under(plane, loads) == height


def _legs_at(scale, plane, upper):
    """Return the lot of the legs with a factor in the plane.

    None if a factor is below the plane, or for the upper skin above it.
    """
    barred = 1 if upper else -1
    legs = []
    for leg, place in enumerate(scale.places):
        against = compare(scale.factors[leg], height_at(plane, place))
        if against == barred:
            return None
        if against == 0:
            legs.append(leg)
    return tuple(legs)


def skin_pieces(scale, *, upper=False):
    """Return the pieces of the lower skin, or of the upper one, in the order of their legs."""
    size = 2 if in_row(scale.places) else 3
    planes = {}
    for lot in lots_of(len(scale), size):
        corners = [scale.places[leg] for leg in lot]
        if size == 2 or not in_row(corners):
            plane = plane_through(corners, [scale.factors[leg] for leg in lot])
            legs = _legs_at(scale, plane, upper)
            if legs is not None:
                planes[legs] = plane
    return tuple([Piece(legs, planes[legs]) for legs in sorted(planes)])


def skin_at(scale, point, upper):
    """Return the height of the lower or the upper skin at a point within that needs no check."""
    heights = [height_at(piece.plane, point) for piece in skin_pieces(scale, upper=upper)]
    return least_of(heights) if upper else greatest_of(heights)


def lower_at(scale, place):
    """Return the least showing of a weight 1 at the place."""
    return skin_at(scale, check_within(scale.places, check_place(place)), False)


def upper_at(scale, place):
    """Return the greatest showing of a weight 1 at the place."""
    return skin_at(scale, check_within(scale.places, check_place(place)), True)


def knots_along(scale, start, goal, *, upper=False):
    """Return the couples (part, height) of the ends and bends of a skin from start to goal."""
    first = check_place(start)
    last = check_place(goal)
    check_within(scale.places, first)
    check_within(scale.places, last)
    pieces = skin_pieces(scale, upper=upper)
    ends = [(height_at(piece.plane, first), height_at(piece.plane, last)) for piece in pieces]
    knots = []
    for row in ascending([(ZERO,), (ONE,)] + _crossings(ends)):
        part = row[0]
        heights = [_height_between(end, part) for end in ends]
        height = least_of(heights) if upper else greatest_of(heights)
        # Lines that cross away from the skin make no bend.
        at = [end for end, there in zip(ends, heights) if there == height]
        if part in (ZERO, ONE) or any([_rise(end) != _rise(at[0]) for end in at]):
            knots.append((part, height))
    return tuple(knots)


def _rise(end):
    return minus(end[1], end[0])


def _height_between(end, part):
    return plus(end[0], times(part, _rise(end)))


def _crossings(ends):
    """Return the parts, each in a tuple of its own, between 0 and 1 at which two lines cross.

    A line is told by its heights at both ends.
    """
    parts = []
    for one, other in lots_of(len(ends), 2):
        gap = minus(ends[one][0], ends[other][0])
        closing = minus(_rise(ends[other]), _rise(ends[one]))
        if closing != ZERO:
            part = over(gap, closing)
            if part[0] > 0 and compare(part, ONE) < 0:
                parts.append((part,))
    return parts


def pushes_for(scale, loads, showing):
    """Return pushes that fit the loads and have this showing."""
    rows = check_loads(loads)
    if not is_ratio(showing):
        raise BadShowing(showing)
    side = tipping_side(scale.places, rows)
    if side is not None:
        raise BeyondSide(side)
    told = _range_for(scale, rows)
    if compare(showing, told.least) < 0 or compare(showing, told.greatest) > 0:
        raise OutOfRange(told.least, told.greatest)
    if told.least == told.greatest:
        return told.low_pushes
    part = over(minus(showing, told.least), minus(told.greatest, told.least))
    pushes = []
    for low, high in zip(told.low_pushes, told.high_pushes):
        pushes.append(plus(low, times(part, minus(high, low))))
    return tuple(pushes)
