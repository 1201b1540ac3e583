"""Scales and loads led along together: point 1.11."""

from wherelaid.loads import check_loads
from wherelaid.places import check_place, mirror_place, shift_place, stretch_place, turn_place
from wherelaid.ratios import check_size
from wherelaid.scales import placed_at


def shifted(scale, by):
    """Return the scale with each place moved by both coordinates of `by`."""
    way = check_place(by)
    return placed_at(scale, [shift_place(place, way) for place in scale.places])


def turned(scale):
    """Return the scale turned counterclockwise by a right angle."""
    return placed_at(scale, [turn_place(place) for place in scale.places])


def mirrored(scale):
    """Return the scale with the other sign of each x."""
    return placed_at(scale, [mirror_place(place) for place in scale.places])


def stretched(scale, size):
    """Return the scale with all coordinates multiplied by the size."""
    check_size(size)
    return placed_at(scale, [stretch_place(place, size) for place in scale.places])


def shifted_loads(loads, by):
    """Return the loads with each place moved by both coordinates of `by`."""
    rows = check_loads(loads)
    way = check_place(by)
    return tuple([(weight, shift_place(place, way)) for weight, place in rows])


def turned_loads(loads):
    """Return the loads turned counterclockwise by a right angle."""
    return tuple([(weight, turn_place(place)) for weight, place in check_loads(loads)])


def mirrored_loads(loads):
    """Return the loads with the other sign of each x."""
    return tuple([(weight, mirror_place(place)) for weight, place in check_loads(loads)])


def stretched_loads(loads, size):
    """Return the loads with all coordinates multiplied by the size."""
    rows = check_loads(loads)
    check_size(size)
    return tuple([(weight, stretch_place(place, size)) for weight, place in rows])
