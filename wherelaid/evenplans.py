"""Plans whose showings are all alike only if all factors are equal: point 6.7."""

from wherelaid.errors import BadPlan, TooMany
from wherelaid.linear import amounts_or_way, determinant_of, product_of, unit_row
from wherelaid.places import check_places
from wherelaid.plans import are_factors, are_pushes_at, lean_at, plan_within
from wherelaid.ratios import ONE, coprime_of, least_of, make_ratio, minus, plus

MOST_CHOICES = 200


class Masked:
    """Factors that are not all equal, and pushes with which all showings are alike."""

    def __init__(self, unlike, pushes):
        self.unlike = unlike
        self.pushes = pushes

    def __eq__(self, other):
        return isinstance(other, Masked) and self.unlike == other.unlike and self.pushes == other.pushes


def _full_plan(places, plan):
    """Return the plan with as many places as legs, or raise BadPlan; the places are checked."""
    checked = plan_within(places, plan)
    if len(checked) != len(places):
        raise BadPlan(0, "length")
    return checked


def check_choices(counts):
    """Raise TooMany if there are too many choices of one thing each out of so many."""
    product = 1
    for count in counts:
        product = product * count
    if product > MOST_CHOICES:
        raise TooMany(MOST_CHOICES)


def even_plan(places, plan):
    """Return None for an even plan, else Masked."""
    rows = check_places(places)
    lean = lean_at(rows, _full_plan(rows, plan))
    check_choices([len(choices) for choices in lean])
    flat = flat_rows(lean)
    if flat is None:
        return None
    pushes = tuple([_with_sum_one(row) for row in flat])
    return Masked(_unseen_factors(pushes), pushes)


def flat_rows(lean):
    """Return whole rows, each a mix of the pushes at one place, with the determinant 0, or None."""
    # Rows made whole, with no other sign, leave the determinant its sign.
    whole = [[coprime_of(pushes) for pushes in choices] for choices in lean]
    first = [choices[0] for choices in whole]
    size = determinant_of(first)
    for rows in _all_choices(whole):
        other = determinant_of(rows)
        if other == 0:
            return rows
        if size * other < 0:
            return _flat_before(rows, first)
    return None


def _all_choices(choices):
    """Return all lists with one of each of the choices."""
    found = [[]]
    for options in choices:
        found = [[*row, option] for row in found for option in options]
    return found


def _flat_before(rows, first):
    """Return rows with the determinant 0, for the first choice whose determinant has another sign."""
    # With its last row that is not the first one at its place put back it is an earlier choice.
    at = [number for number in range(len(rows)) if rows[number] != first[number]][-1]
    size = abs(determinant_of(rows))
    other = abs(determinant_of([*rows[:at], first[at], *rows[at + 1:]]))
    # The determinant of the mix is the sum of both, each times the size of the other one.
    mix = [other * one + size * two for one, two in zip(rows[at], first[at])]
    return [*rows[:at], mix, *rows[at + 1:]]


def _with_sum_one(row):
    """Return the whole numbers divided by their sum."""
    return tuple([make_ratio(number, sum(row)) for number in row])


def _unseen_factors(pushes):
    """Return factors above 0, not all equal, with which all these pushes show the same."""
    ways = [amounts_or_way(pushes, unit_row(len(pushes), leg))[1] for leg in range(len(pushes))]
    way = [row for row in ways if row is not None][0]
    # All pushes show 0 along the way, and have the sum 1: it is not the same at all legs.
    raise_by = minus(ONE, least_of(way))
    return tuple([plus(step, raise_by) for step in way])


def masked_fault(places, plan, told):
    """Judge whether the thing is the Masked that even_plan may return, or as good."""
    rows = check_places(places)
    checked = _full_plan(rows, plan)
    if not isinstance(told, Masked):
        return "kind"
    if not are_factors(told.unlike, len(rows)):
        return "unlike"
    if all([factor == told.unlike[0] for factor in told.unlike]):
        return "equal"
    if not are_pushes_at(rows, checked, told.pushes):
        return "pushes"
    showings = [product_of(pushes, told.unlike) for pushes in told.pushes]
    return None if showings == showings[:1] * len(showings) else "showing"
