"""Loads, their total and their centre: point 1.10."""

from wherelaid.errors import BadLoads, NoCentre
from wherelaid.places import is_place
from wherelaid.ratios import ZERO, is_weight, over, sum_of, times
from wherelaid.sequences import is_couple, is_sequence

MOST_LOADS = 8


def check_loads(loads):
    """Return 0 to 8 loads as a tuple of couples (weight, place), or raise BadLoads."""
    if not is_sequence(loads, 0, MOST_LOADS):
        raise BadLoads(0, "many")
    for index, load in enumerate(loads):
        if not is_couple(load):
            raise BadLoads(index, "load")
        if not is_weight(load[0]):
            raise BadLoads(index, "weight")
        if not is_place(load[1]):
            raise BadLoads(index, "place")
    return tuple([(weight, tuple(place)) for weight, place in loads])


def total_of(loads):
    """Return the sum of the weights."""
    return sum_of([weight for weight, _ in loads])


def moment_of(loads):
    """Return the couple of the sums of weight * x and of weight * y."""
    across = sum_of([times(weight, place[0]) for weight, place in loads])
    along = sum_of([times(weight, place[1]) for weight, place in loads])
    return (across, along)


def centre_of(loads):
    """Return the place at which a single load of the whole total would bear the same."""
    total = total_of(loads)
    if total == ZERO:
        raise NoCentre(len(loads))
    across, along = moment_of(loads)
    return (over(across, total), over(along, total))


def one_load(loads):
    """Return a tuple with one load: the whole total at the centre."""
    return ((total_of(loads), centre_of(loads)),)
