"""What tellings let the weights of axles be, and what shows it: points 7.8 to 7.11."""

from wherelaid.errors import BadAmount, BadMarks, BadSlack, BadTelling, BadTieShowings, NoFit, NotMet
from wherelaid.marks import are_marks, check_count, check_ties
from wherelaid.ratios import (
    ZERO, compare, is_from_zero, is_ratio, is_whole, minus, negative, plus, sum_of,
)
from wherelaid.sequences import is_couple, is_sequence

MOST_TELLINGS = 24


class NoCart:
    """No weights fit: a ring of bounds whose sum is below 0."""

    def __init__(self, ring):
        self.ring = ring

    def __eq__(self, other):
        return isinstance(other, NoCart) and self.ring == other.ring


class SumBounds:
    """The least and the greatest sum between two marks, each with a trail of bounds that adds it."""

    def __init__(self, least, most, least_trail, most_trail):
        self.least = least
        self.most = most
        self.least_trail = least_trail
        self.most_trail = most_trail

    def __eq__(self, other):
        return (isinstance(other, SumBounds) and self.least == other.least
                and self.most == other.most and self.least_trail == other.least_trail
                and self.most_trail == other.most_trail)


def check_tellings(count, tellings):
    """Return 0 to 24 tellings as a tuple of tuples, or raise BadCount or BadTelling."""
    check_count(count)
    if not is_sequence(tellings, 0, MOST_TELLINGS):
        raise BadTelling(0, "many")
    for index, telling in enumerate(tellings):
        what = _wrong_telling(count, telling)
        if what is not None:
            raise BadTelling(index, what)
    return tuple([tuple(telling) for telling in tellings])


def _wrong_telling(count, telling):
    """Return the first word that applies to the telling, or None."""
    if not is_sequence(telling, 4, 4):
        return "telling"
    low, high, least, most = telling
    if not are_marks(count, low, high):
        return "marks"
    if not is_ratio(least) or not is_ratio(most):
        return "amount"
    return "order" if compare(least, most) > 0 else None


def _check_both(count, tellings, low, high):
    """Return the tellings, or raise what is wrong with them or with the marks."""
    rows = check_tellings(count, tellings)
    if not are_marks(count, low, high):
        raise BadMarks(low, high)
    return rows


def tellings_of(count, ties, showings, slack):
    """Return the rows (low, high, showing - slack, showing + slack), tie by tie."""
    checked = check_ties(count, ties)
    many = len(checked)
    if not is_sequence(showings, many, many) or not all([is_ratio(showing) for showing in showings]):
        raise BadTieShowings(showings)
    if not is_from_zero(slack):
        raise BadSlack(slack)
    rows = []
    for (low, high), showing in zip(checked, showings):
        rows.append((low, high, minus(showing, slack), plus(showing, slack)))
    return tuple(rows)


def _bounds_of(count, tellings):
    """Return rows (bound, start, goal, what it adds) of all bounds."""
    rows = []
    for number, (low, high, least, most) in enumerate(tellings):
        rows.append((("most", number), low, high, most))
        rows.append((("least", number), high, low, negative(least)))
    for axle in range(count):
        rows.append((("weight", axle), axle + 1, axle, ZERO))
    return rows


def _led_on(bounds, walks):
    """Return for each mark the least walk there with at most one bound more than those given.

    A walk is a couple: what it adds, and the rows of its bounds.
    """
    found = dict(walks)
    for row in bounds:
        _, start, goal, amount = row
        if start in walks:
            size = plus(walks[start][0], amount)
            if goal not in found or compare(size, found[goal][0]) < 0:
                found[goal] = (size, (*walks[start][1], row))
    return found


def _walks_from(count, bounds, starts):
    """Return for each mark that can be come to the least walk there with at most `count` bounds."""
    walks = {mark: (ZERO, ()) for mark in starts}
    for _ in range(count):
        walks = _led_on(bounds, walks)
    return walks


def _bounds_in(walk):
    return tuple([row[0] for row in walk[1]])


def _weights_or_ring(count, tellings):
    """Return (weights that fit, None), or (None, the rows of a ring whose sum is below 0)."""
    bounds = _bounds_of(count, tellings)
    marks = list(range(count + 1))
    walks = _walks_from(count, bounds, marks)
    longer = _led_on(bounds, walks)
    for mark in marks:
        if longer[mark][0] != walks[mark][0]:
            # This walk has as many bounds as there are marks, so that it comes to some mark twice.
            # What lies between adds a sum below 0: without it the walk would be no less.
            return (None, _ring_in(longer[mark][1]))
    sums = [walks[mark][0] for mark in marks]
    return (tuple([minus(sums[axle + 1], sums[axle]) for axle in range(count)]), None)


def _ring_in(rows):
    """Return the rows between the first two times that they come to one mark."""
    seen = {}
    for number, row in enumerate(rows):
        if row[1] in seen:
            return rows[seen[row[1]]:number]
        seen[row[1]] = number
    return rows[seen[rows[-1][2]]:]


def _no_cart(ring):
    return NoCart(tuple([row[0] for row in ring]))


def fitting_weights(count, tellings):
    """Return weights that fit the tellings, or NoCart."""
    weights, ring = _weights_or_ring(count, check_tellings(count, tellings))
    return _no_cart(ring) if weights is None else weights


def ring_fault(count, tellings, no_cart):
    """Judge whether the thing is a NoCart that shows that no weights fit."""
    bounds = {row[0]: row[1:] for row in _bounds_of(count, check_tellings(count, tellings))}
    if not isinstance(no_cart, NoCart) or not _are_bounds(bounds, no_cart.ring):
        return "bounds"
    rows = [bounds[tuple(bound)] for bound in no_cart.ring]
    goals = [goal for _, goal, _ in rows]
    if [start for start, _, _ in rows] != goals[-1:] + goals[:-1]:
        return "walk"
    return None if sum_of([amount for _, _, amount in rows])[0] < 0 else "sum"


def _are_bounds(bounds, thing):
    """Whether the thing is a sequence of one or more couples that are among the bounds."""
    return is_sequence(thing, 1) and all([_is_bound(bounds, bound) for bound in thing])


def _is_bound(bounds, thing):
    # True is equal to 1, so that to look among the bounds would not be enough.
    if not is_couple(thing) or not isinstance(thing[0], str) or not is_whole(thing[1]):
        return False
    return tuple(thing) in bounds


def _sum_bounds(count, tellings, low, high):
    """Return the SumBounds between the marks, for tellings that some weights fit."""
    bounds = _bounds_of(count, tellings)
    up = _walks_from(count, bounds, [low]).get(high)
    # The weights alone lead down to each lower mark.
    down = _walks_from(count, bounds, [high])[low]
    least = negative(down[0])
    if up is None:
        return SumBounds(least, None, _bounds_in(down), None)
    return SumBounds(least, up[0], _bounds_in(down), _bounds_in(up))


def sum_bounds(count, tellings, low, high):
    """Return the SumBounds between the marks of all weights that fit, or NoCart."""
    rows = _check_both(count, tellings, low, high)
    weights, ring = _weights_or_ring(count, rows)
    return _no_cart(ring) if weights is None else _sum_bounds(count, rows, low, high)


def weights_of_sum(count, tellings, low, high, amount):
    """Return weights that fit and have this sum between the marks, or raise NotMet."""
    rows = _check_both(count, tellings, low, high)
    if not is_ratio(amount):
        raise BadAmount(amount)
    weights, _ = _weights_or_ring(count, (*rows, (low, high, amount, amount)))
    if weights is None:
        raise NotMet(amount)
    return weights


def _check_fit(count, tellings):
    """Raise NoFit if no weights fit the tellings."""
    weights, _ = _weights_or_ring(count, tellings)
    if weights is None:
        raise NoFit(len(tellings))


def limit_verdict(count, tellings, low, high, limit):
    """Return "within", "over" or "maybe": what the sum between the marks is against the limit."""
    rows = _check_both(count, tellings, low, high)
    if not is_ratio(limit):
        raise BadAmount(limit)
    _check_fit(count, rows)
    told = _sum_bounds(count, rows, low, high)
    if told.most is not None and compare(told.most, limit) <= 0:
        return "within"
    return "over" if compare(told.least, limit) > 0 else "maybe"


def next_tie(count, tellings, ties):
    """Return (number, width) of the tie with the greatest width, or None without ties."""
    rows = check_tellings(count, tellings)
    checked = check_ties(count, ties)
    _check_fit(count, rows)
    best = None
    for number, (low, high) in enumerate(checked):
        told = _sum_bounds(count, rows, low, high)
        if told.most is None:
            return (number, None)
        width = minus(told.most, told.least)
        if best is None or compare(width, best[1]) > 0:
            best = (number, width)
    return best


def needless_tellings(count, tellings):
    """Return the tellings each of which holds for all weights that fit the other ones."""
    rows = check_tellings(count, tellings)
    _check_fit(count, rows)
    needless = []
    for number, (low, high, least, most) in enumerate(rows):
        told = _sum_bounds(count, _without(rows, number), low, high)
        if told.most is not None and compare(told.most, most) <= 0 and compare(told.least, least) >= 0:
            needless.append(number)
    return tuple(needless)


def _without(rows, number):
    return rows[:number] + rows[number + 1:]


def suspect_tellings(count, tellings):
    """Return the tellings without each of which alone some weights fit the others."""
    rows = check_tellings(count, tellings)
    found = []
    for number in range(len(rows)):
        weights, _ = _weights_or_ring(count, _without(rows, number))
        if weights is not None:
            found.append(number)
    return tuple(found)
