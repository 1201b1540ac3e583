"""Scales whose showing never hangs on how the legs share a load: points 3.5 to 3.8."""

from wherelaid.errors import BadLoads
from wherelaid.loads import check_loads
from wherelaid.places import check_leg
from wherelaid.planes import is_plane
from wherelaid.pushes import fit_fault, showing_of
from wherelaid.ratios import ZERO, negative, over
from wherelaid.skins import height_at, skin_pieces
from wherelaid.swaps import basis_of, is_swap_of, sum_over


class Settled:
    """The scale is settled: the plane has the height of each leg's factor at its place."""

    def __init__(self, plane):
        self.plane = plane

    def __eq__(self, other):
        return isinstance(other, Settled) and self.plane == other.plane


class Unsettled:
    """The scale is not settled: a swap, loads, and two ways to share them with unlike showings."""

    def __init__(self, swap, loads, pushes, other_pushes):
        self.swap = swap
        self.loads = loads
        self.pushes = pushes
        self.other_pushes = other_pushes

    def __eq__(self, other):
        return (isinstance(other, Unsettled) and self.swap == other.swap
                and self.loads == other.loads and self.pushes == other.pushes
                and self.other_pushes == other.other_pushes)


def unsettling_swap(scale):
    """Return the first swap of the basis that changes the showing, or None."""
    for swap in basis_of(scale.places):
        if sum_over(swap, scale.factors) != ZERO:
            return swap
    return None


def is_settled(scale):
    """Whether the showing is the same for all pushes that fit, whatever the loads."""
    return unsettling_swap(scale) is None


def settled_of(scale):
    """Return Settled or Unsettled, with what shows it."""
    swap = unsettling_swap(scale)
    if swap is None:
        # All factors lie in one plane, so the skin is of one piece.
        return Settled(skin_pieces(scale)[0].plane)
    taken = tuple([(max(number, 0), 1) for number in swap])
    given = tuple([(max(-number, 0), 1) for number in swap])
    loads = [(push, place) for push, place in zip(taken, scale.places) if push != ZERO]
    return Unsettled(swap, tuple(loads), taken, given)


def settled_fault(scale, told):
    """Judge whether the thing is what settled_of may return, or as good."""
    if isinstance(told, Settled):
        return None if _has_all_factors(scale, told.plane) else "plane"
    if not isinstance(told, Unsettled):
        return "kind"
    if not is_swap_of(scale.places, told.swap) or sum_over(told.swap, scale.factors) == ZERO:
        return "swap"
    return _loads_fault(scale, told)


def _has_all_factors(scale, plane):
    if not is_plane(plane):
        return False
    heights = [height_at(plane, place) for place in scale.places]
    return heights == list(scale.factors)


def _loads_fault(scale, told):
    """Return what is wrong with the loads and the pushes of an Unsettled, or None."""
    try:
        loads = check_loads(told.loads)
    except BadLoads:
        return "loads"
    if fit_fault(scale.places, loads, told.pushes) is not None:
        return "pushes"
    if fit_fault(scale.places, loads, told.other_pushes) is not None:
        return "other pushes"
    alike = showing_of(scale, told.pushes) == showing_of(scale, told.other_pushes)
    return "showings" if alike else None


def settling_factor(scale, leg):
    """Return the one factor of the leg that makes the scale settled, or None."""
    check_leg(scale, leg)
    if is_settled(scale):
        return scale.factors[leg]
    others = list(scale.factors)
    others[leg] = ZERO
    found = []
    for swap in basis_of(scale.places):
        shows = sum_over(swap, others)
        if swap[leg] != 0:
            found.append(over(negative(shows), (swap[leg], 1)))
        elif shows != ZERO:
            return None
    # There is one: the swap that unsettles the scale has a number at the leg, or was met above.
    alike = all([factor == found[0] for factor in found])
    return found[0] if alike and found[0][0] > 0 else None
