"""Swaps: what may go over from legs to other legs without a change of the loads (3.1 to 3.4)."""

from wherelaid.errors import NoSwap
from wherelaid.lots import lots_of
from wherelaid.places import check_places, in_row
from wherelaid.ratios import (
    ONE, ZERO, coprime_of, greatest_of, is_whole, least_of, minus, negative, over, sum_of, times,
)
from wherelaid.sequences import is_sequence
from wherelaid.shares import shares_at


def is_swap(places, thing):
    """Whether the thing is a swap of the places."""
    return is_swap_of(check_places(places), thing)


def is_swap_of(places, thing):
    """Return what is_swap returns, for places that are checked already."""
    if not is_sequence(thing, len(places), len(places)):
        return False
    if not all([is_whole(number) for number in thing]) or not any(thing):
        return False
    if sum(thing) != 0:
        return False
    return all([sum_over(thing, [place[axis] for place in places]) == ZERO for axis in range(2)])


def sum_over(swap, sizes):
    """Return the sum of number * size, for ratios one for each leg."""
    return sum_of([times((number, 1), size) for number, size in zip(swap, sizes)])


def plain_swaps(places):
    """Return the basis: plain swaps, each with 0 at the leading legs of all others."""
    return basis_of(check_places(places))


def basis_of(places):
    """Return what plain_swaps returns, for places that are checked already."""
    # From the last leg on: a leg that the later ones make up leads a swap with them, any other
    # one leads none. Those that lead none are one, two, or three that are not in a row.
    swaps = []
    later = []
    for leg in reversed(range(len(places))):
        shares = None
        if later:
            shares = shares_at([places[other] for other in later], places[leg])
        if shares is None:
            later.append(leg)
        else:
            swaps.append(_swap_with(len(places), leg, later, shares))
    return tuple(swaps[::-1])


def _swap_with(many, leg, others, shares):
    """Return the plain swap from the leg to the shares of the others that make up its place."""
    # The leg comes before all others, and with 1 there the first number is above 0.
    row = [ZERO] * many
    row[leg] = ONE
    for other, share in zip(others, shares):
        row[other] = negative(share)
    return coprime_of(row)


def least_swaps(places):
    """Return all least swaps, ascending."""
    return least_ones(check_places(places))


def least_ones(places):
    """Return what least_swaps returns, for places that are checked already."""
    many = len(places)
    lots = [lot for lot in lots_of(many, 3) if _three_in_row(places, lot)]
    for lot in lots_of(many, 4):
        threes = [[lot[at] for at in three] for three in lots_of(4, 3)]
        if not any([_three_in_row(places, three) for three in threes]):
            lots.append(lot)
    found = []
    for lot in lots:
        others = lot[1:]
        shares = shares_at([places[other] for other in others], places[lot[0]])
        found.append(_swap_with(many, lot[0], others, shares))
    return tuple(sorted(found))


def _three_in_row(places, legs):
    return in_row([places[leg] for leg in legs])


def free_legs(places):
    """Return the legs at which each swap has 0."""
    rows = check_places(places)
    swaps = basis_of(rows)
    return tuple([leg for leg in range(len(rows)) if all([swap[leg] == 0 for swap in swaps])])


def split_swap(places, numbers):
    """Return shares of least swaps of the same signs whose sum the swap is."""
    rows = check_places(places)
    if not is_swap_of(rows, numbers):
        raise NoSwap(numbers)
    left = [(number, 1) for number in numbers]
    split = []
    # What is left is a swap, made smaller, and some least swap has no other signs than it. To
    # take as much of it as can be leaves one leg less. So what is passed over never comes back.
    for swap in least_ones(rows):
        share = _share_within(left, swap)
        if share is not None:
            left = [minus(size, times(share, (part, 1))) for size, part in zip(left, swap)]
            split.append((share, swap))
    return tuple(split)


def _share_within(left, swap):
    """Return how much of the swap, with either sign, is within what is left at each leg.

    None if that is 0.
    """
    parts = [over(size, (number, 1)) for size, number in zip(left, swap) if number != 0]
    if all([part[0] > 0 for part in parts]):
        return least_of(parts)
    return greatest_of(parts) if all([part[0] < 0 for part in parts]) else None
