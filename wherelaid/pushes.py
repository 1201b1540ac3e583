"""Pushes of the legs and how they fit loads: points 2.4 to 2.7."""

from wherelaid.errors import BadPushes
from wherelaid.hulls import check_within, first_beyond
from wherelaid.loads import centre_of, check_loads, moment_of, total_of
from wherelaid.lots import lots_of
from wherelaid.places import check_leg, check_place, check_places, in_row
from wherelaid.ratios import (
    ONE, ZERO, ascending, greatest_of, is_from_zero, least_of, minus, over, sum_of, times,
)
from wherelaid.sequences import is_sequence
from wherelaid.shares import shares_at


def _wrong_push(many, pushes):
    """Return the couple (index, word) of the first thing that makes these no pushes, or None."""
    if not is_sequence(pushes, many, many):
        return (0, "many")
    for index, push in enumerate(pushes):
        if not is_from_zero(push):
            return (index, "push")
    return None


def check_pushes(legs, pushes):
    """Return the pushes as a tuple, or raise BadPushes; `legs` is a scale or the places."""
    wrong = _wrong_push(len(legs), pushes)
    if wrong is not None:
        index, what = wrong
        raise BadPushes(index, what)
    return tuple(pushes)


def _misfit(places, loads, pushes):
    """Return "sum" or "balance" if the pushes do not fit the loads, else None."""
    pushed = list(zip(pushes, places))
    if total_of(pushed) != total_of(loads):
        return "sum"
    return None if moment_of(pushed) == moment_of(loads) else "balance"


def pushes_fault(places, loads, pushes):
    """Judge whether the thing is pushes that fit the loads."""
    rows = check_places(places)
    return fit_fault(rows, check_loads(loads), pushes)


def fit_fault(places, loads, pushes):
    """Return what pushes_fault returns, for places and loads that are checked already."""
    wrong = _wrong_push(len(places), pushes)
    if wrong is not None:
        return wrong[1]
    return _misfit(places, loads, pushes)


def showing_of(scale, pushes):
    """Return the sum of factor * push."""
    checked = check_pushes(scale, pushes)
    return sum_of([times(factor, push) for factor, push in zip(scale.factors, checked)])


def tipping_side(places, loads):
    """Return the first side that the centre is beyond if the loads tip, else None.

    Neither is checked.
    """
    if total_of(loads) == ZERO:
        return None
    return first_beyond(places, centre_of(loads))


def is_lean(places, pushes):
    """Whether at most three pushes are above 0, and three not of legs in a row."""
    pushed = [place for place, push in zip(places, pushes) if push != ZERO]
    return len(pushed) < 3 or (len(pushed) == 3 and not in_row(pushed))


def lean_pushes(places, loads):
    """Return all lean pushes that fit the loads, ascending."""
    rows = check_places(places)
    return lean_rows(rows, check_loads(loads))


def lean_rows(places, loads):
    """Return what lean_pushes returns, for places and loads that need no check."""
    total = total_of(loads)
    if total == ZERO:
        return ((ZERO,) * len(places),)
    centre = centre_of(loads)
    found = []
    for size in range(1, 4):
        for lot in lots_of(len(places), size):
            shares = _shares_above(places, lot, centre)
            if shares is not None:
                found.append(_spread(len(places), lot, [times(total, share) for share in shares]))
    return tuple(ascending(found))


def only_pushes(places, point):
    """Return the pushes for a weight 1 at a point within if only one tuple fits, else None."""
    # All pushes that fit are means of lean ones.
    lean = lean_rows(places, ((ONE, point),))
    return lean[0] if len(lean) == 1 else None


def _shares_above(places, lot, point):
    """Return the shares, all above 0, with which the legs of the lot make up the point, or None."""
    corners = [places[leg] for leg in lot]
    if len(corners) == 3 and in_row(corners):
        return None
    shares = shares_at(corners, point)
    return None if shares is None or any([share[0] <= 0 for share in shares]) else shares


def _spread(many, lot, amounts):
    """Return a tuple of `many` ratios: the amounts at the legs of the lot, 0 elsewhere."""
    row = [ZERO] * many
    for leg, amount in zip(lot, amounts):
        row[leg] = amount
    return tuple(row)


def mix_of(places, loads, pushes):
    """Return shares of lean pushes whose mean the pushes are."""
    rows = check_places(places)
    checked = check_loads(loads)
    left = check_pushes(rows, pushes)
    what = _misfit(rows, checked, left)
    if what is not None:
        raise BadPushes(0, what)
    if total_of(checked) == ZERO:
        return ((ONE, left),)
    mix = []
    # What is left fits the loads, made smaller; so some lean pushes stand on its legs alone. To
    # take as much of them as can be leaves one leg less. So what is passed over never comes back.
    for taken in lean_rows(rows, checked):
        share = least_of([over(push, part) for push, part in zip(left, taken) if part != ZERO])
        if share != ZERO:
            left = [minus(push, times(share, part)) for push, part in zip(left, taken)]
            mix.append((share, taken))
    return tuple(mix)


def share_range(places, place, leg):
    """Return the least and the greatest push of the leg for a weight 1 at the place."""
    rows = check_places(places)
    point = check_place(place)
    check_leg(rows, leg)
    # Lean pushes are the corners of all pushes that fit, so both ends come among them.
    shares = [row[leg] for row in lean_rows(rows, ((ONE, check_within(rows, point)),))]
    return (least_of(shares), greatest_of(shares))
