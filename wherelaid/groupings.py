"""All ways to part legs into groups, and the best of them: point 8.8."""

from wherelaid.errors import BadMany
from wherelaid.found import check_direction, sure_along
from wherelaid.groups import LEAST_GROUPS, MOST_GROUPS, Groups
from wherelaid.ratios import is_whole, least_of
from wherelaid.sums import spread_of


class BestGroupings:
    """The least quotient of all groupings, and all groupings that have it."""

    def __init__(self, quotient, groupings):
        self.quotient = quotient
        self.groupings = groupings

    def __eq__(self, other):
        return (isinstance(other, BestGroupings) and self.quotient == other.quotient
                and self.groupings == other.groupings)


def _groupings_of(scale, many):
    """Return all groupings into so many groups, by their rows, as a list; or raise BadMany."""
    if not is_whole(many, LEAST_GROUPS, MOST_GROUPS) or many > len(scale):
        raise BadMany(many)
    # Groups come in the order of their first legs: so a leg is in one of the groups before it,
    # or begins the next one.
    rows = [()]
    for _ in range(len(scale)):
        rows = [(*row, group) for row in rows for group in range(min(_groups_in(row) + 1, many))]
    return [_grouping_by(row, many) for row in rows if _groups_in(row) == many]


def _groups_in(row):
    return max(row) + 1 if row else 0


def _grouping_by(row, many):
    """Return the grouping in which each leg is in the group that the row tells."""
    groups = []
    for number in range(many):
        groups.append(tuple([leg for leg, group in enumerate(row) if group == number]))
    return tuple(groups)


def all_groupings(scale, many):
    """Yield all groupings into so many groups, in the order of their rows."""
    for grouping in _groupings_of(scale, many):
        yield grouping


def best_groupings(scale, many):
    """Return the BestGroupings into so many groups."""
    groupings = _groupings_of(scale, many)
    quotients = [spread_of(Groups(scale, grouping)).quotient for grouping in groupings]
    least = least_of(quotients)
    best = [grouping for grouping, quotient in zip(groupings, quotients) if quotient == least]
    return BestGroupings(least, tuple(best))


def groupings_along(scale, many, direction):
    """Return all groupings for which the centre's number along the direction is sure."""
    groupings = _groupings_of(scale, many)
    way = check_direction(direction)
    return tuple([grouping for grouping in groupings if sure_along(Groups(scale, grouping), way) is None])
