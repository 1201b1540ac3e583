"""All sizes of one thing with which wishes are granted: points 10.6 and 10.7.

A *range* is here a couple (low, high) of ratios, None where there is no such end; None in its
place stands for no size at all. The *parts* of a scale are for each leg a couple (size, whether
the leg grows): its factor is the size, and as often as it grows the size times one number above 0.
"""

from wherelaid.arms import arm_size, arms_of, way_of
from wherelaid.edits import edit_row, sets_factors, wrong_edit
from wherelaid.errors import BadSlot
from wherelaid.even import error_bounds
from wherelaid.hulls import first_beyond, sides_around
from wherelaid.laying import depth_of, least_margin
from wherelaid.lots import lots_of
from wherelaid.ratios import (
    ONE, ZERO, compare, greatest_of, least_of, minus, negative, over, times,
)
from wherelaid.sequences import is_sequence
from wherelaid.swaps import basis_of, sum_over
from wherelaid.wishes import wishes_with

SIMPLE = ("settled", "even", "within", "any order", "sure total")
ALL = (None, None)


class Sizes:
    """All wishes are granted exactly with the sizes from `low` to `high`."""

    def __init__(self, low, high):
        self.low = low
        self.high = high

    def __eq__(self, other):
        return isinstance(other, Sizes) and self.low == other.low and self.high == other.high


class Excluding:
    """Two wishes that no size grants both, or twice one that no size grants."""

    def __init__(self, first, second):
        self.first = first
        self.second = second

    def __eq__(self, other):
        return (isinstance(other, Excluding) and self.first == other.first
                and self.second == other.second)


def _check_slot(weighing, slot):
    """Return the slot as a tuple, or raise BadSlot."""
    # With a size behind it a slot is an edit, and nothing else is one then.
    if not is_sequence(slot) or wrong_edit(weighing, [], (*slot, ONE)) is not None:
        raise BadSlot(slot)
    return edit_row((*slot, ONE))[:-1]


def _slots_of(weighing):
    """Return all slots in order."""
    if sets_factors(weighing):
        slots = [("factor", leg) for leg in range(len(weighing.scale))]
    else:
        slots = [("arm", arm) for arm in arms_of(weighing.scale)]
    weights = [("weight", number) for number in range(len(weighing.loads))]
    return [*slots, *weights, ("own",)]


def _parts_with(scale, slot):
    """Return the parts of the scale as the size of the slot changes."""
    factors = scale.factors
    if slot[0] == "factor":
        return [(ONE, True) if leg == slot[1] else (factors[leg], False) for leg in range(len(scale))]
    if slot[0] != "arm":
        return [(factor, False) for factor in factors]
    parts = []
    size = arm_size(scale, slot[1])
    for leg, factor in enumerate(factors):
        if slot[1] not in [arm for arm, _ in way_of(scale, leg)]:
            parts.append((factor, False))
        else:
            parts.append((times(factor, size) if _is_turned(slot) else over(factor, size), True))
    return parts


def _is_turned(slot):
    """Whether factors grow as the size of the slot gets less."""
    return slot[0] == "arm" and slot[1][0] == "out"


def _met(one, other):
    """Return the range that two ranges have in common."""
    if one is None or other is None:
        return None
    lows = [found[0] for found in (one, other) if found[0] is not None]
    highs = [found[1] for found in (one, other) if found[1] is not None]
    low = greatest_of(lows) if lows else None
    high = least_of(highs) if highs else None
    if low is not None and high is not None and compare(low, high) > 0:
        return None
    return (low, high)


def _all_met(ranges):
    found = ALL
    for one in ranges:
        found = _met(found, one)
    return found


def _range_above(base, slope):
    """Return the range of the sizes, none of them below 0, with base + slope * size from 0 on."""
    if slope[0] > 0:
        return (over(negative(base), slope), None) if base[0] < 0 else ALL
    if base[0] < 0:
        return None
    return ALL if slope == ZERO else (None, over(base, negative(slope)))


def _range_at_zero(base, slope):
    """Return the range of the sizes above 0 with base + slope * size equal to 0."""
    if slope == ZERO:
        return ALL if base == ZERO else None
    size = over(negative(base), slope)
    return (size, size) if size[0] > 0 else None


def _settled_range(places, parts):
    ranges = []
    for swap in basis_of(places):
        base = sum_over(swap, [ZERO if grows else size for size, grows in parts])
        slope = sum_over(swap, [size if grows else ZERO for size, grows in parts])
        ranges.append(_range_at_zero(base, slope))
    return _all_met(ranges)


def _equal_range(parts):
    """Return the range in which the factors of all these parts are equal."""
    ranges = []
    for size, grows in parts:
        first, first_grows = parts[0]
        base = minus(ZERO if grows else size, ZERO if first_grows else first)
        slope = minus(size if grows else ZERO, first if first_grows else ZERO)
        ranges.append(_range_at_zero(base, slope))
    return _all_met(ranges)


def _within_range(parts, factor, error):
    least, greatest = error_bounds(factor, error)
    ranges = []
    for size, grows in parts:
        own, slope = (ZERO, size) if grows else (size, ZERO)
        ranges.append(_range_above(minus(own, least), slope))
        ranges.append(_range_above(minus(greatest, own), negative(slope)))
    return _all_met(ranges)


def _order_range(weighing, slot):
    places = weighing.scale.places
    own = weighing.own
    if first_beyond(places, own.place) is not None:
        return None
    # Margins without what the slot changes, and what it adds to them for each 1.
    borne = (ZERO, own.place) if slot[0] == "own" else own.as_load
    loads = list(weighing.loads)
    if slot[0] == "weight":
        loads[slot[1]] = (ZERO, loads[slot[1]][1])
    ranges = []
    for side in sides_around(places):
        slope = ZERO
        if slot[0] == "own":
            slope = depth_of(side, own.place)
        elif slot[0] == "weight":
            slope = least_of([ZERO, depth_of(side, loads[slot[1]][1])])
        ranges.append(_range_above(least_margin(side, borne, loads), slope))
    return _all_met(ranges)


def _range_for(weighing, slot, wish):
    """Return the range of the sizes of the slot that grant the wish."""
    if wish[0] == "any order":
        return _order_range(weighing, slot)
    parts = _parts_with(weighing.scale, slot)
    if wish[0] == "settled":
        found = _settled_range(weighing.scale.places, parts)
    elif wish[0] == "even":
        found = _equal_range(parts)
    elif wish[0] == "within":
        found = _within_range(parts, wish[1], wish[2])
    else:
        found = _all_met([_equal_range([parts[leg] for leg in row]) for row in wish[1]])
    return _turned(found) if _is_turned(slot) else found


def _turned(found):
    """Return the range of 1 divided by what is in the range."""
    if found is None:
        return None
    low, high = found
    return (None if high is None else over(ONE, high), None if low is None else over(ONE, low))


def _sizes_for(weighing, slot, wishes):
    """Return what sizes_for returns, for a slot and wishes that are checked already."""
    ranges = [_range_for(weighing, slot, wish) for wish in wishes]
    if None in ranges:
        first = ranges.index(None)
        return Excluding(first, first)
    # Ranges of which each two have a size in common have one in common all together.
    for first, second in lots_of(len(ranges), 2):
        if _met(ranges[first], ranges[second]) is None:
            return Excluding(first, second)
    low, high = _all_met(ranges)
    return Sizes(low, high)


def sizes_for(weighing, slot, wishes):
    """Return Sizes with which all wishes are granted, or Excluding."""
    own = _check_slot(weighing, slot)
    return _sizes_for(weighing, own, wishes_with(weighing, wishes, SIMPLE))


def single_mends(weighing, wishes):
    """Yield (slot, Sizes) for each slot some of whose sizes grant all wishes."""
    checked = wishes_with(weighing, wishes, SIMPLE)
    for slot in _slots_of(weighing):
        told = _sizes_for(weighing, slot, checked)
        if isinstance(told, Sizes):
            yield (slot, told)
