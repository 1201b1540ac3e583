"""What a beam that shows in steps tells: points 9.1 to 9.3."""

from wherelaid.errors import BadShowing, BadShowings, BadShown, BadStep, BadWeight
from wherelaid.groups import part_factors
from wherelaid.hulls import check_within
from wherelaid.places import check_place
from wherelaid.ratios import (
    floor_of, greatest_of, is_above_zero, is_from_zero, least_of, over, plus, sum_of, times,
)
from wherelaid.sequences import is_sequence
from wherelaid.skins import Tips, range_of, skin_at


class Behind:
    """The totals that may be behind what is shown: from `least` on and below `end`."""

    def __init__(self, least, end):
        self.least = least
        self.end = end

    def __eq__(self, other):
        return isinstance(other, Behind) and self.least == other.least and self.end == other.end


def check_step(step):
    """Return the step, or raise BadStep."""
    if not is_above_zero(step):
        raise BadStep(step)
    return step


def check_shown(step, shown):
    """Return what is shown, or raise BadShown if it is no multiple of the step from 0 on."""
    if not _is_shown(step, shown):
        raise BadShown(shown)
    return shown


def _is_shown(step, thing):
    return is_from_zero(thing) and over(thing, step)[1] == 1


def check_shown_rows(step, rows, low, high):
    """Return `low` to `high` shown showings as a tuple, or raise BadShowings."""
    if not is_sequence(rows, low, high):
        raise BadShowings(0, "many")
    for index, shown in enumerate(rows):
        if not _is_shown(step, shown):
            raise BadShowings(index, "shown")
    return tuple(rows)


def check_stepped(showing, step):
    """Raise BadShowing if the showing is no ratio from 0 on, then BadStep."""
    if not is_from_zero(showing):
        raise BadShowing(showing)
    check_step(step)


def cut_to_step(showing, step):
    """Return what is shown of a showing; checks nothing."""
    return times((floor_of(over(showing, step)), 1), step)


def shown_of(showing, step):
    """Return the greatest multiple of the step that is at most the showing."""
    check_stepped(showing, step)
    return cut_to_step(showing, step)


def weights_behind(scale, step, shown):
    """Return Behind with the totals of loads that can be shown so, wherever they lie."""
    check_shown(check_step(step), shown)
    return _behind(step, shown, greatest_of(scale.factors), least_of(scale.factors))


def _behind(step, shown, greatest, least):
    return Behind(over(shown, greatest), over(plus(shown, step), least))


def weights_at(scale, place, step, shown):
    """Return Behind with the weights of one load at the place that can be shown so."""
    point = check_place(place)
    check_shown(check_step(step), shown)
    check_within(scale.places, point)
    return _behind(step, shown, skin_at(scale, point, True), skin_at(scale, point, False))


def totals_behind(groups, step, rows):
    """Return Behind with the totals of loads for which each group can be shown so."""
    check_step(step)
    leasts = []
    ends = []
    for number, shown in enumerate(check_shown_rows(step, rows, len(groups), len(groups))):
        factors = part_factors(groups, number)
        part = _behind(step, shown, greatest_of(factors), least_of(factors))
        leasts.append(part.least)
        ends.append(part.end)
    return Behind(sum_of(leasts), sum_of(ends))


def shown_range(scale, loads, step):
    """Return the least and the greatest that is shown of the loads, or Tips."""
    told = range_of(scale, loads)
    check_step(step)
    if isinstance(told, Tips):
        return told
    return (cut_to_step(told.least, step), cut_to_step(told.greatest, step))


def sure_shown(scale, weight, step):
    """Return what is shown of each load of this total if it is always the same, else None."""
    if not is_from_zero(weight):
        raise BadWeight(weight)
    check_step(step)
    least = cut_to_step(times(weight, least_of(scale.factors)), step)
    greatest = cut_to_step(times(weight, greatest_of(scale.factors)), step)
    return least if least == greatest else None
