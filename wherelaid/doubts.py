"""How far showings of one load may lie apart: points 3.9 to 3.11."""

from wherelaid.hulls import check_within
from wherelaid.loads import centre_of
from wherelaid.places import check_place, is_point, turn_place
from wherelaid.planes import is_plane, plane_through
from wherelaid.ratios import (
    ZERO, compare, greatest_of, is_from_zero, least_of, minus, negative, over, plus, times,
)
from wherelaid.shares import dot_of, way_to
from wherelaid.skins import height_at, skin_at, skin_pieces
from wherelaid.swaps import is_swap_of, least_ones, sum_over


class Doubt:
    """The greatest doubt, where it is, the swap that shows it and the plane that bounds it."""

    def __init__(self, size, place, swap, plane):
        self.size = size
        self.place = place
        self.swap = swap
        self.plane = plane

    def __eq__(self, other):
        return (isinstance(other, Doubt) and self.size == other.size and self.place == other.place
                and self.swap == other.swap and self.plane == other.plane)


def doubt_at(scale, place):
    """Return how far showings of a weight 1 at the place may lie apart."""
    point = check_within(scale.places, check_place(place))
    return minus(skin_at(scale, point, True), skin_at(scale, point, False))


def greatest_doubt(scale):
    """Return the Doubt of the scale."""
    swaps = least_ones(scale.places)
    sizes = [_doubt_of(scale, swap) for swap in swaps]
    size = greatest_of([ZERO, *sizes])
    swap = None if size == ZERO else swaps[sizes.index(size)]
    return Doubt(size, _doubt_place(scale, swap), swap, _middle_plane(scale, size, swap))


def _doubt_of(scale, swap):
    """Return (sum of number * factor, without sign) / (sum of the numbers above 0)."""
    top, bottom = sum_over(swap, scale.factors)
    return over((abs(top), bottom), (_moved_by(swap), 1))


def _moved_by(swap):
    return sum([number for number in swap if number > 0])


def _doubt_place(scale, swap):
    """Return the centre of the legs with a number above 0, the place of leg 0 without a swap."""
    if swap is None:
        return scale.places[0]
    moved = [((number, 1), place) for number, place in zip(swap, scale.places) if number > 0]
    return centre_of(moved)


def _middle_plane(scale, size, swap):
    """Return a plane from which each factor is at most half the size away."""
    if swap is None:
        # All factors lie in one plane, so the skin is of one piece.
        return skin_pieces(scale)[0].plane
    half = over(size, (2, 1))
    # The swap leaves no choice at its own legs: there the plane is just half the size away, on
    # the one side of the factors where its numbers are above 0 and on the other where below.
    sign = sum_over(swap, scale.factors)[0]
    corners = []
    heights = []
    for leg, number in enumerate(swap):
        if number != 0:
            corners.append(scale.places[leg])
            heights.append(minus(scale.factors[leg], half if sign * number > 0 else negative(half)))
    return _turned_plane(scale, plane_through(corners[:2], heights[:2]), corners, half)


def _turned_plane(scale, plane, corners, half):
    """Return the plane turned about two places until it is at most `half` from all factors."""
    slope = turn_place(way_to(corners[0], corners[1]))
    turn = (negative(dot_of(slope, corners[0])), slope[0], slope[1])
    starts = []
    for place, factor in zip(scale.places, scale.factors):
        rise = height_at(turn, place)
        if rise != ZERO:
            gap = minus(factor, height_at(plane, place))
            ends = [over(minus(gap, half), rise), over(plus(gap, half), rise)]
            starts.append(least_of(ends))
    # Each leg beside the row of the two lets the turn lie in a stretch, and all stretches meet.
    size = greatest_of(starts) if starts else ZERO
    return tuple([plus(part, times(size, more)) for part, more in zip(plane, turn)])


def doubt_fault(scale, told):
    """Judge whether the thing is what greatest_doubt may return, or as good."""
    if not isinstance(told, Doubt):
        return "kind"
    if not is_from_zero(told.size):
        return "size"
    if not _is_doubt_swap(scale, told.size, told.swap):
        return "swap"
    if not is_point(told.place) or told.place != _doubt_place(scale, told.swap):
        return "place"
    return None if _is_middle_plane(scale, told.size, told.plane) else "plane"


def _is_doubt_swap(scale, size, swap):
    """Whether the swap, plain or not, shows a doubt of this size; None shows the doubt 0."""
    if size == ZERO:
        return swap is None
    return is_swap_of(scale.places, swap) and _doubt_of(scale, swap) == size


def _is_middle_plane(scale, size, plane):
    if not is_plane(plane):
        return False
    half = over(size, (2, 1))
    for place, factor in zip(scale.places, scale.factors):
        gap = minus(factor, height_at(plane, place))
        if compare((abs(gap[0]), gap[1]), half) > 0:
            return False
    return True
