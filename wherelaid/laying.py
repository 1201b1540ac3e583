"""Loads laid on a plate with an own weight, and whether any order holds: points 5.1 to 5.5."""

from wherelaid.errors import BadLot, BadOwn, NoSide
from wherelaid.hulls import first_beyond, height_over, lies_beyond, sides_around
from wherelaid.loads import check_loads
from wherelaid.places import check_places, is_place
from wherelaid.ratios import is_weight, is_whole, minus, sum_of, times
from wherelaid.sequences import is_sequence


class Own:
    """The own weight of a plate, and where it lies."""

    def __init__(self, weight, place):
        if not is_weight(weight):
            raise BadOwn("weight")
        if not is_place(place):
            raise BadOwn("place")
        self.weight = weight
        self.place = tuple(place)

    @property
    def as_load(self):
        """The couple (weight, place)."""
        return (self.weight, self.place)

    def __eq__(self, other):
        return isinstance(other, Own) and self.weight == other.weight and self.place == other.place


class Tipping:
    """A side over which the loads of a lot tip the plate."""

    def __init__(self, side, lot):
        self.side = side
        self.lot = lot

    def __eq__(self, other):
        return isinstance(other, Tipping) and self.side == other.side and self.lot == other.lot


def check_own(places, own):
    """Return the own weight, or raise BadOwn if it does not lie within the places."""
    if first_beyond(places, own.place) is not None:
        raise BadOwn("hull")
    return own


def check_lot(loads, lot):
    """Return the lot as an ascending tuple, or raise BadLot."""
    return lot_among(check_loads(loads), lot)


def lot_among(loads, lot):
    """Return what check_lot returns, for loads that are checked already."""
    if not is_sequence(lot) or not all([is_whole(one, 0, len(loads) - 1) for one in lot]):
        raise BadLot(lot)
    found = sorted(set(list(lot)))
    if len(found) != len(lot):
        raise BadLot(lot)
    return tuple(found)


def is_lot(loads, thing):
    """Whether the thing is an ascending tuple of unlike numbers of loads."""
    try:
        return lot_among(loads, thing) == thing
    except BadLot:
        return False


def depth_of(side, point):
    """Return how deep the point lies at the side; below 0 if it is beyond."""
    return minus(height_over(side.normal, point), side.least)


def margin_of(side, loads):
    """Return the sum of weight * depth; the own weight is one of the loads."""
    return sum_of([times(weight, depth_of(side, place)) for weight, place in loads])


def margins_of(places, own, loads, lot):
    """Return the margins of all sides with the own weight and the loads of the lot."""
    rows = check_places(places)
    check_own(rows, own)
    checked = check_loads(loads)
    laid = [checked[one] for one in lot_among(checked, lot)]
    return tuple([margin_of(side, [own.as_load, *laid]) for side in sides_around(rows)])


def tips_with(places, own, loads, lot):
    """Return None if the lot holds, else the number of the first side with a margin below 0."""
    for number, margin in enumerate(margins_of(places, own, loads, lot)):
        if margin[0] < 0:
            return number
    return None


def lot_beyond(side, loads):
    """Return the lot of the loads with a weight above 0 beyond the side; no check."""
    lot = []
    for number, (weight, place) in enumerate(loads):
        if weight[0] > 0 and lies_beyond(side, place):
            lot.append(number)
    return tuple(lot)


def beyond_side(places, loads, side):
    """Return the lot of all loads with a weight above 0 beyond the side of this number."""
    sides = sides_around(check_places(places))
    checked = check_loads(loads)
    if not is_whole(side, 0, len(sides) - 1):
        raise NoSide(side)
    return lot_beyond(sides[side], checked)


def least_margin(side, borne, loads):
    """Return the least margin of the side, with the own weight `borne` as a load; no check."""
    return margin_of(side, [borne, *[loads[one] for one in lot_beyond(side, loads)]])


def least_margins(places, own, loads):
    """Return for each side the least margin over all lots."""
    rows = check_places(places)
    check_own(rows, own)
    checked = check_loads(loads)
    return tuple([least_margin(side, own.as_load, checked) for side in sides_around(rows)])


def first_tipping(places, borne, loads):
    """Return what any_order returns, with the own weight `borne` as a load; checks nothing."""
    for number, side in enumerate(sides_around(places)):
        if least_margin(side, borne, loads)[0] < 0:
            return Tipping(number, lot_beyond(side, loads))
    return None


def any_order(places, own, loads):
    """Return None if every lot holds, else the Tipping of the first side that is in danger."""
    rows = check_places(places)
    check_own(rows, own)
    return first_tipping(rows, own.as_load, check_loads(loads))


def tipping_fault(places, own, loads, tipping):
    """Judge whether the thing is a Tipping whose lot tips the plate over its side."""
    rows = check_places(places)
    check_own(rows, own)
    checked = check_loads(loads)
    if not isinstance(tipping, Tipping):
        return "kind"
    sides = sides_around(rows)
    if not is_whole(tipping.side, 0, len(sides) - 1):
        return "side"
    if not is_lot(checked, tipping.lot):
        return "lot"
    laid = [own.as_load, *[checked[one] for one in tipping.lot]]
    return None if margin_of(sides[tipping.side], laid)[0] < 0 else "holds"
