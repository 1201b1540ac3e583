"""Loads, their total and their centre: point 1.10."""

from wherelaid.errors import BadLoads, NoCentre
from wherelaid.places import is_place
from wherelaid.ratios import ZERO, is_weight, over, sum_of, times
from wherelaid.sequences import is_couple, is_sequence

MOST_LOADS = 8


def wrong_load(thing):
    """Return the first word that makes the thing no load, or None."""
    if not is_couple(thing):
        return "load"
    if not is_weight(thing[0]):
        return "weight"
    return None if is_place(thing[1]) else "place"


def load_row(load):
    """Return the load as a tuple, with its place as one."""
    return (load[0], tuple(load[1]))


def check_loads(loads):
    """Return 0 to 8 loads as a tuple of couples (weight, place), or raise BadLoads."""
    if not is_sequence(loads, 0, MOST_LOADS):
        raise BadLoads(0, "many")
    for index, load in enumerate(loads):
        what = wrong_load(load)
        if what is not None:
            raise BadLoads(index, what)
    return tuple([load_row(load) for load in loads])


def total_of(loads):
    """Return the sum of the weights."""
    return sum_of([weight for weight, _ in loads])


def moment_of(loads):
    """Return the couple of the sums of weight * x and of weight * y."""
    across = sum_of([times(weight, place[0]) for weight, place in loads])
    along = sum_of([times(weight, place[1]) for weight, place in loads])
    return (across, along)


def centre_of(loads):
    """Return the place at which a single load of the whole total would bear the same."""
    total = total_of(loads)
    if total == ZERO:
        raise NoCentre(len(loads))
    across, along = moment_of(loads)
    return (over(across, total), over(along, total))


def one_load(loads):
    """Return a tuple with one load: the whole total at the centre."""
    return ((total_of(loads), centre_of(loads)),)
