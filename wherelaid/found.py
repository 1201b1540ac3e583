"""Where the load lies that showings of groups tell of: points 8.5 to 8.7."""

from wherelaid.cones import shares_or_bar
from wherelaid.errors import BadDirection, BadPlace, NothingShown
from wherelaid.groups import borne_load, check_showings
from wherelaid.hulls import corner_points
from wherelaid.linear import unit_row
from wherelaid.ratios import ONE, ZERO, greatest_of, is_ratio, least_of, over, times
from wherelaid.sequences import is_couple
from wherelaid.shares import dot_of, way_to
from wherelaid.sums import pushes_on, sure_total


class CentreRange:
    """The least and the greatest number of centres along a direction, with pushes that meet them."""

    def __init__(self, least, greatest, low_pushes, high_pushes):
        self.least = least
        self.greatest = greatest
        self.low_pushes = low_pushes
        self.high_pushes = high_pushes

    def __eq__(self, other):
        return (isinstance(other, CentreRange) and self.least == other.least
                and self.greatest == other.greatest and self.low_pushes == other.low_pushes
                and self.high_pushes == other.high_pushes)


class OtherLoads:
    """Two lists of pushes that give the same showings and bear unlike loads."""

    def __init__(self, one, other):
        self.one = one
        self.other = other

    def __eq__(self, other):
        return isinstance(other, OtherLoads) and self.one == other.one and self.other == other.other


def _check_shown(groups, showings):
    """Return the showings, or raise BadShowings, or NothingShown if all are 0."""
    checked = check_showings(groups, showings)
    if all([showing == ZERO for showing in checked]):
        raise NothingShown(showings)
    return checked


def _is_pair(thing):
    """Whether the thing is a couple of ratios, of any size."""
    return is_couple(thing) and is_ratio(thing[0]) and is_ratio(thing[1])


def check_direction(direction):
    """Return a couple of ratios that are not both 0 as a tuple, or raise BadDirection."""
    if not _is_pair(direction) or tuple(direction) == (ZERO, ZERO):
        raise BadDirection(direction)
    return tuple(direction)


def _corner_pushes(groups, showings):
    """Return all pushes that give the showings with one leg alone in each group that shows."""
    rows = [()]
    for row, showing in zip(groups.rows, showings):
        legs = row[:1] if showing == ZERO else row
        rows = [(*chosen, leg) for chosen in rows for leg in legs]
    return [pushes_on(groups, showings, chosen) for chosen in rows]


def _centre_of(groups, pushes):
    return borne_load(groups, pushes)[1]


def centre_corners(groups, showings):
    """Return the corners of the hull of the centres of all loads that fit the showings."""
    checked = _check_shown(groups, showings)
    return corner_points([_centre_of(groups, pushes) for pushes in _corner_pushes(groups, checked)])


def pushes_of_centre(groups, showings, place):
    """Return pushes that give the showings and bear a load with this centre, or None."""
    checked = _check_shown(groups, showings)
    if not _is_pair(place):
        raise BadPlace(place)
    columns = []
    for leg, own in enumerate(groups.places):
        # What a push adds to the showings, and how it draws the centre away from the place.
        shown = [times(groups.factors[leg], part) for part in unit_row(len(groups), groups.group_of(leg))]
        columns.append((*shown, *way_to(place, own)))
    pushes, _ = shares_or_bar(columns, (*checked, ZERO, ZERO))
    return pushes


def centre_range(groups, showings, direction):
    """Return the CentreRange of the loads that fit the showings."""
    checked = _check_shown(groups, showings)
    way = check_direction(direction)
    rows = _corner_pushes(groups, checked)
    numbers = [dot_of(way, _centre_of(groups, pushes)) for pushes in rows]
    least = least_of(numbers)
    greatest = greatest_of(numbers)
    return CentreRange(least, greatest, rows[numbers.index(least)], rows[numbers.index(greatest)])


def found_load(groups, showings):
    """Return the load if exactly one with a total above 0 fits the showings, else None."""
    rows = _corner_pushes(groups, check_showings(groups, showings))
    return borne_load(groups, rows[0]) if len(rows) == 1 else None


def alike_loads(groups, showings):
    """Return None if at most one load fits the showings, else OtherLoads."""
    rows = _corner_pushes(groups, check_showings(groups, showings))
    # They differ in one group alone, which pushes at another place.
    return None if len(rows) == 1 else OtherLoads(rows[0], rows[1])


def sure_along(groups, direction):
    """Return None if showings always tell the centre's number along the direction, else OtherLoads."""
    way = check_direction(direction)
    numbers = [dot_of(way, place) for place in groups.places]
    for row in groups.rows:
        for leg in row:
            if numbers[leg] != numbers[row[0]]:
                return _other_loads(groups, row[0], leg, [])
    unlike = sure_total(groups)
    if unlike is None:
        return None
    # Where each group has one number, only what it bears beside another group moves the centre.
    one, other = unlike
    beside = [leg for leg in range(len(numbers)) if numbers[leg] != numbers[one]]
    return _other_loads(groups, one, other, beside[:1]) if beside else None


def _other_loads(groups, one, other, beside):
    """Return OtherLoads: one of two legs alone shows 1, and the legs beside are pushed with 1."""
    rows = []
    for leg in (one, other):
        row = [ONE if own in beside else ZERO for own in range(len(groups.places))]
        row[leg] = over(ONE, groups.factors[leg])
        rows.append(tuple(row))
    return OtherLoads(rows[0], rows[1])
