"""Carts on a plate, where they stand clear, and what their stops make sure: points 7.1 to 7.4."""

from wherelaid.errors import BadAmount, BadCart, BadLength, BadShift
from wherelaid.marks import MOST_AXLES, blocks_among
from wherelaid.ratios import (
    ZERO, ascending, compare, greatest_of, is_arm_size, is_coordinate, is_ratio, is_weight,
    least_of, minus, negative, over, plus,
)
from wherelaid.sequences import is_sequence

TWO = (2, 1)


class Cart:
    """The positions of some axles, ascending, and the tread: half of what a wheel covers."""

    def __init__(self, axles, tread=ZERO):
        _check_axles(axles)
        if not is_weight(tread):
            raise BadCart(0, "tread")
        self.axles = tuple(axles)
        self.tread = tread

    @property
    def span(self):
        """The last position less the first one."""
        return minus(self.axles[-1], self.axles[0])

    def mirrored(self):
        """Return the cart with the negative positions in opposite order."""
        return Cart([negative(axle) for axle in self.axles[::-1]], self.tread)

    def shifted(self, amount):
        """Return the cart with the amount added to each position."""
        if not is_coordinate(amount):
            raise BadAmount(amount)
        return Cart([plus(axle, amount) for axle in self.axles], self.tread)

    def coupled(self, other, distance):
        """Return the cart with the axles of the other one behind its own, at this distance."""
        if not is_arm_size(distance):
            raise BadAmount(distance)
        by = minus(plus(self.axles[-1], distance), other.axles[0])
        moved = [plus(axle, by) for axle in other.axles]
        return Cart([*self.axles, *moved], greatest_of([self.tread, other.tread]))

    def __len__(self):
        return len(self.axles)

    def __eq__(self, other):
        return isinstance(other, Cart) and self.axles == other.axles and self.tread == other.tread


def _check_axles(axles):
    if not is_sequence(axles, 1, MOST_AXLES):
        raise BadCart(0, "axles")
    for index, axle in enumerate(axles):
        if not is_coordinate(axle):
            raise BadCart(index, "axle")
        if index > 0 and compare(axles[index - 1], axle) >= 0:
            raise BadCart(index, "rising")


def _check_length(length):
    """Return the length, or raise BadLength."""
    if not is_arm_size(length):
        raise BadLength(length)
    return length


def stand_at(cart, length, shift):
    """Return the marks (low, high) of the axles on the plate, None if the cart stands not clear."""
    _check_length(length)
    if not is_ratio(shift):
        raise BadShift(shift)
    words = [_stand_of(plus(shift, axle), cart.tread, length) for axle in cart.axles]
    if None in words:
        return None
    low = words.count("before")
    return (low, low + words.count("on"))


def _stand_of(position, tread, length):
    """Return whether an axle here is "before", "on" or "beyond" the plate, or None."""
    if compare(position, negative(tread)) < 0:
        return "before"
    if compare(position, plus(length, tread)) > 0:
        return "beyond"
    on = compare(position, tread) >= 0 and compare(position, minus(length, tread)) <= 0
    return "on" if on else None


def _lengths_of_stops(cart):
    """Return rows (low, high, start, end) of the stops that some lengths have.

    These are the lengths from start on, and below end if that is not None.
    """
    axles = cart.axles
    wide = plus(cart.tread, cart.tread)
    free = [compare(minus(axles[k + 1], axles[k]), wide) > 0 for k in range(len(axles) - 1)]
    # The first and the last mark need no room.
    clear = [True, *free, True]
    rows = []
    for low in range(len(axles)):
        for high in range(low + 1, len(axles) + 1):
            start = plus(minus(axles[high - 1], axles[low]), wide)
            end = None
            if low > 0 and high < len(axles):
                end = minus(minus(axles[high], axles[low - 1]), wide)
            if clear[low] and clear[high] and (end is None or compare(start, end) < 0):
                rows.append((low, high, start, end))
    return rows


def _has_length(row, length):
    """Whether the length is one of those of the stop."""
    return compare(row[2], length) <= 0 and (row[3] is None or compare(length, row[3]) < 0)


def stops_of(cart, length):
    """Return a row (low, high, middle) for each stop, by ascending middle."""
    _check_length(length)
    stops = {}
    for row in _lengths_of_stops(cart):
        if _has_length(row, length):
            stops[_middle_of(cart, length, row[0], row[1])] = row[:2]
    # Stops have no shift in common, so no middle either.
    return tuple([(*stops[row[0]], row[0]) for row in ascending([(middle,) for middle in stops])])


def _middle_of(cart, length, low, high):
    """Return half the sum of the ends of the shifts of the stop."""
    axles = cart.axles
    tread = cart.tread
    starts = [minus(tread, axles[low])]
    ends = [minus(minus(length, tread), axles[high - 1])]
    if low > 0:
        ends.append(minus(negative(tread), axles[low - 1]))
    if high < len(axles):
        starts.append(minus(plus(length, tread), axles[high]))
    return over(plus(greatest_of(starts), least_of(ends)), TWO)


def sure_lengths(cart):
    """Return the lengths at which the stops make all axles sure, as couples (low, high)."""
    rows = _lengths_of_stops(cart)
    bounds = [(ZERO,)]
    for row in rows:
        bounds.append((row[2],))
        if row[3] is not None:
            bounds.append((row[3],))
    found = []
    last = None
    # From one bound to the next one the stops are the same.
    for bound in [row[0] for row in ascending(bounds)]:
        ties = [row[:2] for row in rows if _has_length(row, bound)]
        if len(blocks_among(len(cart), ties)) > 1:
            if last is not None:
                found.append((last, bound))
            last = None
        elif last is None:
            last = bound
    if last is not None:
        found.append((last, None))
    return tuple(found)
