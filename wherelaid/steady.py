"""What own weights, growth and further loads keep any order holding: points 5.6 to 5.10."""

from wherelaid.errors import BadWeight, TipsAlready
from wherelaid.hulls import check_within, corner_points, first_beyond, height_over, sides_around
from wherelaid.laying import (
    check_own, depth_of, first_tipping, least_margin, lot_beyond, margin_of,
)
from wherelaid.loads import check_loads
from wherelaid.lots import lots_of
from wherelaid.places import check_place, check_places, in_row, is_point
from wherelaid.ratios import (
    ONE, ZERO, compare, greatest_of, is_above_zero, is_from_zero, is_weight, is_whole, least_of, minus, negative,
    over, plus, sum_of, times,
)
from wherelaid.sequences import is_couple
from wherelaid.shares import shares_at

ORIGIN = ((0, 1), (0, 1))


class NoOwn:
    """No own weight will do: the loads of the lot tip the plate over the side."""

    def __init__(self, side, lot):
        self.side = side
        self.lot = lot

    def __eq__(self, other):
        return isinstance(other, NoOwn) and self.side == other.side and self.lot == other.lot


class BestOwn:
    """The least own weight that will do, its place, and shares of sides that show it."""

    def __init__(self, weight, place, shares):
        self.weight = weight
        self.place = place
        self.shares = shares

    def __eq__(self, other):
        return (isinstance(other, BestOwn) and self.weight == other.weight
                and self.place == other.place and self.shares == other.shares)


def _need_of(side, loads):
    """Return the sum of weight * depth over the loads beyond the side, with the other sign."""
    return negative(margin_of(side, [loads[one] for one in lot_beyond(side, loads)]))


def least_own(places, loads, place):
    """Return the least own weight at the place that will do, or NoOwn."""
    rows = check_places(places)
    checked = check_loads(loads)
    point = check_within(rows, check_place(place))
    weights = [ZERO]
    for number, side in enumerate(sides_around(rows)):
        need = _need_of(side, checked)
        depth = depth_of(side, point)
        if need != ZERO and depth == ZERO:
            return NoOwn(number, lot_beyond(side, checked))
        if need != ZERO:
            weights.append(over(need, depth))
    return greatest_of(weights)


def greatest_growth(places, own, loads):
    """Return the greatest ratio by which all loads may be multiplied, None if every one will do."""
    rows = check_places(places)
    check_own(rows, own)
    checked = check_loads(loads)
    growths = []
    for side in sides_around(rows):
        need = _need_of(side, checked)
        if need != ZERO:
            growths.append(over(margin_of(side, [own.as_load]), need))
    return least_of(growths) if growths else None


def _left_margins(places, own, loads):
    """Return the sides with their least margins, or raise TipsAlready."""
    tipping = first_tipping(places, own.as_load, loads)
    if tipping is not None:
        raise TipsAlready(tipping.side, tipping.lot)
    return [(side, least_margin(side, own.as_load, loads)) for side in sides_around(places)]


def greatest_further(places, own, loads, place):
    """Return the greatest weight of one further load at the place, None if every one will do."""
    rows = check_places(places)
    check_own(rows, own)
    checked = check_loads(loads)
    point = check_place(place)
    weights = []
    for side, margin in _left_margins(rows, own, checked):
        depth = depth_of(side, point)
        if depth[0] < 0:
            weights.append(over(margin, negative(depth)))
    return least_of(weights) if weights else None


def safe_places(places, own, loads, weight):
    """Return the corners of the places where a further load of this weight will do."""
    rows = check_places(places)
    check_own(rows, own)
    checked = check_loads(loads)
    if not is_weight(weight) or weight == ZERO:
        raise BadWeight(weight)
    bounds = []
    for side, margin in _left_margins(rows, own, checked):
        bounds.append((side.normal, minus(side.least, over(margin, weight))))
    return corner_points(_meeting_points(bounds))


def _meeting_points(bounds):
    """Return where the rims of two bounds meet in a point that all bounds let.

    A bound (normal, least) lets the points whose height over the normal is at least `least`.
    """
    found = []
    for one, other in lots_of(len(bounds), 2):
        point = _meeting_point(bounds[one], bounds[other])
        if point is not None and all([_lets(bound, point) for bound in bounds]):
            found.append(point)
    return found


def _meeting_point(one, other):
    """Return the point on both rims, None if they do not cross."""
    (right, up), least = one
    (other_right, other_up), other_least = other
    cross = right * other_up - up * other_right
    if cross == 0:
        return None
    across = minus(times((other_up, 1), least), times((up, 1), other_least))
    along = minus(times((right, 1), other_least), times((other_right, 1), least))
    return (over(across, (cross, 1)), over(along, (cross, 1)))


def _lets(bound, point):
    normal, least = bound
    return compare(height_over(normal, point), least) >= 0


def best_own(places, loads):
    """Return the BestOwn of all own weights at all places within, or NoOwn."""
    rows = check_places(places)
    checked = check_loads(loads)
    sides = sides_around(rows)
    needs = [_need_of(side, checked) for side in sides]
    if in_row(rows):
        # Nothing within lies deep at the two sides along the row.
        for number in range(2):
            if needs[number] != ZERO:
                return NoOwn(number, lot_beyond(sides[number], checked))
    weight, shares = _best_shares(sides, needs)
    if weight == ZERO:
        return BestOwn(ZERO, rows[0], ())
    bounds = []
    for side, need in zip(sides, needs):
        bounds.append((side.normal, plus(side.least, over(need, weight))))
    return BestOwn(weight, _meeting_points(bounds)[0], shares)


def _best_shares(sides, needs):
    """Return (sum of share * need, shares), the sum the greatest of all shares of two or three sides."""
    best = (ZERO, ())
    for lot in lots_of(len(sides), 2) + lots_of(len(sides), 3):
        shares = _shares_of([sides[number] for number in lot])
        if shares is not None:
            bound = sum_of([times(share, needs[number]) for number, share in zip(lot, shares)])
            if compare(bound, best[0]) > 0:
                best = (bound, tuple(zip(lot, shares)))
    return best


def _shares_of(sides):
    """Return the shares of two or three sides as a BestOwn has them, None if there are none above 0."""
    normals = [tuple([(number, 1) for number in side.normal]) for side in sides]
    if len(normals) == 3 and in_row(normals):
        return None
    parts = shares_at(normals, ORIGIN)
    if parts is None or any([part[0] <= 0 for part in parts]):
        return None
    least = sum_of([times(part, side.least) for part, side in zip(parts, sides)])
    # It is 0 for the two sides along a row, else below 0.
    return None if least == ZERO else [over(part, negative(least)) for part in parts]


def best_fault(places, loads, best):
    """Judge whether the thing is the BestOwn that best_own may return, or as good."""
    rows = check_places(places)
    checked = check_loads(loads)
    if not isinstance(best, BestOwn):
        return "kind"
    if not is_from_zero(best.weight):
        return "weight"
    if not is_point(best.place) or first_beyond(rows, best.place) is not None:
        return "place"
    if first_tipping(rows, (best.weight, best.place), checked) is not None:
        return "tips"
    sides = sides_around(rows)
    if not _are_shares(sides, best.weight, best.shares):
        return "shares"
    needs = [times(share, _need_of(sides[number], checked)) for number, share in best.shares]
    return None if sum_of(needs) == best.weight else "bound"


def _are_shares(sides, weight, thing):
    """Whether the thing is shares of sides as a BestOwn of this weight has them, however many."""
    if weight == ZERO:
        return thing == ()
    if not isinstance(thing, tuple):
        return False
    for couple in thing:
        if not is_couple(couple) or not is_whole(couple[0], 0, len(sides) - 1):
            return False
        if not is_above_zero(couple[1]):
            return False
    numbers = [number for number, _ in thing]
    if numbers != sorted(set(numbers)):
        return False
    shares = [share for _, share in thing]
    for axis in range(2):
        steps = [(sides[number].normal[axis], 1) for number in numbers]
        if sum_of([times(share, step) for share, step in zip(shares, steps)]) != ZERO:
            return False
    leasts = [sides[number].least for number in numbers]
    return sum_of([times(share, least) for share, least in zip(shares, leasts)]) == negative(ONE)
