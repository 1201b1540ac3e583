"""Beams with two pans, and loads weighed on both of them: points 9.5 and 9.6."""

from wherelaid.errors import BadPan, BadPans, BadPoise, BadPoises, BadWeight, OtherPans
from wherelaid.ratios import compare, is_above_zero, is_arm_size, is_from_zero, over, sum_of, times
from wherelaid.sequences import is_couple, is_sequence

PANS = ("left", "right")
MOST_WEIGHED = 8


class Pans:
    """A beam with two pans on arms of these sizes."""

    def __init__(self, left, right):
        if not is_arm_size(left):
            raise BadPans("left")
        if not is_arm_size(right):
            raise BadPans("right")
        self.left = left
        self.right = right
        self.quotient = over(right, left)

    def sinks(self, left_weight, right_weight):
        """Return which pan sinks, "left" or "right", or "even"."""
        _check_weight(left_weight)
        _check_weight(right_weight)
        against = compare(times(left_weight, self.left), times(right_weight, self.right))
        if against == 0:
            return "even"
        return "left" if against > 0 else "right"

    def poise_for(self, weight, pan):
        """Return what on the other pan balances a weight on this one."""
        _check_weight(weight)
        if not is_pan(pan):
            raise BadPan(pan)
        return over(weight, self.quotient) if pan == "left" else times(weight, self.quotient)

    def exchanged(self):
        """Return the pans with left and right arm exchanged."""
        return Pans(self.right, self.left)

    def __eq__(self, other):
        return isinstance(other, Pans) and self.left == other.left and self.right == other.right


class TwiceWeighed:
    """The squares of a load's weight and of the quotient of the pans."""

    def __init__(self, square, quotient):
        self.square = square
        self.quotient = quotient

    def __eq__(self, other):
        return (isinstance(other, TwiceWeighed) and self.square == other.square
                and self.quotient == other.quotient)


def is_pan(thing):
    """Whether the thing is the word of a pan."""
    return thing in PANS


def _check_weight(weight):
    if not is_from_zero(weight):
        raise BadWeight(weight)


def twice_weighed(poise, other):
    """Return TwiceWeighed for the poises of a load on the left and on the right."""
    for one in (poise, other):
        if not is_above_zero(one):
            raise BadPoise(one)
    return TwiceWeighed(times(poise, other), over(other, poise))


def compare_twice(poise, other, weight):
    """Return -1, 0 or 1 as the load is lighter than, as heavy as or heavier than the weight."""
    told = twice_weighed(poise, other)
    _check_weight(weight)
    return compare(told.square, times(weight, weight))


def sum_twice(rows):
    """Return the square of the sum of loads, each told by its two poises on one pair of pans."""
    if not is_sequence(rows, 1, MOST_WEIGHED):
        raise BadPoises(0, "many")
    for index, row in enumerate(rows):
        if not is_couple(row) or not is_above_zero(row[0]) or not is_above_zero(row[1]):
            raise BadPoises(index, "poises")
    quotients = [over(other, poise) for poise, other in rows]
    for index, quotient in enumerate(quotients):
        if quotient != quotients[0]:
            raise OtherPans(index)
    # All weights are the poises times one root, so that their sum is.
    return times(sum_of([poise for poise, _ in rows]), sum_of([other for _, other in rows]))
