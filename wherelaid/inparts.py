"""Loads that are weighed in parts, each part shown in steps: point 9.4."""

from wherelaid.errors import BadMany
from wherelaid.ratios import ZERO, compare, greatest_of, is_whole, minus, over, plus, sum_of, times
from wherelaid.shown import check_shown, check_shown_rows, check_step, check_stepped, cut_to_step

MOST_PARTS = 12


def _check_parts(showing, step, many):
    check_stepped(showing, step)
    if not is_whole(many, 1, MOST_PARTS):
        raise BadMany(many)


def _lost_at_most(step, many):
    """Return how many steps less the parts may be shown as than the whole, as a ratio."""
    return times((many - 1, 1), step)


def parts_range(showing, step, many):
    """Return the least and the greatest sum of what is shown of so many parts of the showing."""
    _check_parts(showing, step, many)
    greatest = cut_to_step(showing, step)
    least = greatest_of([ZERO, minus(greatest, _lost_at_most(step, many))])
    return (least, greatest)


def parts_for(showing, step, many, total):
    """Return so many parts of the showing of which this total is shown, or None."""
    least, greatest = parts_range(showing, step, many)
    check_shown(step, total)
    if compare(total, least) < 0 or compare(total, greatest) > 0:
        return None
    # What is not shown, shared evenly, is less than a step in each part.
    lost = over(minus(showing, total), (many, 1))
    parts = [lost] * many
    parts[0] = plus(total, lost)
    return tuple(parts)


def whole_range(step, rows):
    """Return the least and the greatest that the whole can be shown as, of what its parts show."""
    check_step(step)
    least = sum_of(check_shown_rows(step, rows, 1, MOST_PARTS))
    return (least, plus(least, _lost_at_most(step, len(rows))))
