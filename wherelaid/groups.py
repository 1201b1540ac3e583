"""Groups of legs with beams of their own, and what these show: points 8.1 and 8.2."""

from wherelaid.errors import BadGroups, BadShowings
from wherelaid.loads import centre_of, total_of
from wherelaid.places import check_leg
from wherelaid.pushes import check_pushes
from wherelaid.ratios import ZERO, is_from_zero, is_whole, sum_of, times
from wherelaid.sequences import is_sequence

LEAST_GROUPS = 2
MOST_GROUPS = 3


class Groups:
    """The legs of a scale, parted into two or three groups."""

    def __init__(self, scale, rows):
        self.scale = scale
        self.rows = _checked_rows(scale, rows)
        self.places = scale.places

    @property
    def factors(self):
        """The tuple of the factors of all legs."""
        return self.scale.factors

    def group_of(self, leg):
        """Return the number of the group that has the leg."""
        check_leg(self.scale, leg)
        return [number for number, row in enumerate(self.rows) if leg in row][0]

    def __len__(self):
        return len(self.rows)

    def __iter__(self):
        return iter(self.rows)

    def __eq__(self, other):
        return isinstance(other, Groups) and self.scale == other.scale and self.rows == other.rows


def _checked_rows(scale, rows):
    """Return the groups as passed, the legs of each ascending, or raise BadGroups."""
    if not is_sequence(rows, LEAST_GROUPS, MOST_GROUPS):
        raise BadGroups(0, "many")
    taken = []
    for number, row in enumerate(rows):
        if not is_sequence(row, 1):
            raise BadGroups(number, "group")
        for leg in row:
            if not is_whole(leg, 0, len(scale) - 1):
                raise BadGroups(number, "leg")
            if leg in taken:
                raise BadGroups(number, "twice")
            taken.append(leg)
    if len(taken) < len(scale):
        raise BadGroups(0, "left")
    return tuple([tuple(sorted(row)) for row in rows])


def check_showings(groups, showings):
    """Return one ratio from 0 on for each group as a tuple, or raise BadShowings."""
    if not is_sequence(showings, len(groups), len(groups)):
        raise BadShowings(0, "many")
    for index, showing in enumerate(showings):
        if not is_from_zero(showing):
            raise BadShowings(index, "showing")
    return tuple(showings)


def showings_of(groups, pushes):
    """Return the showings of all groups under the pushes."""
    checked = check_pushes(groups.scale, pushes)
    shown = [times(factor, push) for factor, push in zip(groups.factors, checked)]
    return tuple([sum_of([shown[leg] for leg in row]) for row in groups.rows])


def borne_load(groups, pushes):
    """Return the one load (total, centre) that the pushes bear, None if all pushes are 0."""
    pushed = list(zip(check_pushes(groups.scale, pushes), groups.places))
    total = total_of(pushed)
    return None if total == ZERO else (total, centre_of(pushed))


def part_factors(groups, number):
    """Return the factors of the legs of the group, in the order of the legs, as a list."""
    return [groups.factors[leg] for leg in groups.rows[number]]
