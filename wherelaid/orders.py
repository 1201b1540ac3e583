"""Orders in which loads are laid and taken off through lots that hold: points 5.11 to 5.13."""

from wherelaid.errors import LotTips, NoOrder
from wherelaid.hulls import sides_around
from wherelaid.laying import check_own, depth_of, is_lot, lot_among, tips_with
from wherelaid.loads import check_loads
from wherelaid.lots import lots_of
from wherelaid.places import check_places
from wherelaid.ratios import ZERO, coprime_of, is_whole, times
from wherelaid.sequences import is_sequence


class Stuck:
    """All lots that can be come to through lots that hold; the goal is none of them."""

    def __init__(self, lots):
        self.lots = lots

    def __eq__(self, other):
        return isinstance(other, Stuck) and self.lots == other.lots


def _checked(places, own, loads):
    """Return the places and loads as tuples, or raise what is wrong with them or the own weight."""
    rows = check_places(places)
    check_own(rows, own)
    return (rows, check_loads(loads))


def _holding(places, own, loads):
    """Return all lots that hold, fewer loads first, equally many ascending, as a list."""
    rows = [_parts_at(side, [own.as_load, *loads]) for side in sides_around(places)]
    lots = []
    for size in range(len(loads) + 1):
        for lot in lots_of(len(loads), size):
            if all([row[0] + sum([row[1 + load] for load in lot]) >= 0 for row in rows]):
                lots.append(lot)
    return lots


def _parts_at(side, loads):
    """Return weight * depth of all loads, made whole numbers in the same proportion."""
    parts = [times(weight, depth_of(side, place)) for weight, place in loads]
    return coprime_of(parts) if any([part != ZERO for part in parts]) else [0] * len(parts)


def _after(lot, move):
    """Return the lot after the move."""
    if move in lot:
        return tuple([load for load in lot if load != move])
    return tuple(sorted([*lot, move]))


def _ways_from(start, holding, many, taking):
    """Return a dict: for each lot that can be come to the least of the shortest rows of moves."""
    good = {lot: True for lot in holding}
    ways = {start: ()}
    queue = [start]
    at = 0
    while at < len(queue):
        lot = queue[at]
        at += 1
        # Lots come into the queue in the order of their ways, so the first way is the least one.
        for move in range(many):
            goal = _after(lot, move)
            if goal in good and goal not in ways and (taking or move not in lot):
                ways[goal] = (*ways[lot], move)
                queue.append(goal)
    return ways


def _check_ends(places, own, loads, start, goal):
    """Return the two lots as ascending tuples, or raise BadLot or LotTips."""
    first = lot_among(loads, start)
    last = lot_among(loads, goal)
    side = tips_with(places, own, loads, first)
    if side is not None:
        raise LotTips(side)
    return (first, last)


def some_moves(places, own, loads, start, goal, *, taking=False):
    """Return the least of the shortest rows of moves from start to goal, or Stuck."""
    rows, checked = _checked(places, own, loads)
    first, last = _check_ends(rows, own, checked, start, goal)
    holding = _holding(rows, own, checked)
    ways = _ways_from(first, holding, len(checked), taking)
    if last in ways:
        return ways[last]
    return Stuck(tuple([lot for lot in holding if lot in ways]))


def moves_fault(places, own, loads, start, goal, moves, *, taking=False):
    """Judge whether the thing is moves from start to goal through lots that hold."""
    rows, checked = _checked(places, own, loads)
    lot, last = _check_ends(rows, own, checked, start, goal)
    if not is_sequence(moves) or not all([is_whole(move, 0, len(checked) - 1) for move in moves]):
        return (0, "moves")
    for number, move in enumerate(moves):
        if move in lot and not taking:
            return (number, "lies")
        lot = _after(lot, move)
        if tips_with(rows, own, checked, lot) is not None:
            return (number, "tips")
    return None if lot == last else (len(moves), "goal")


def stuck_fault(places, own, loads, start, goal, stuck, *, taking=False):
    """Judge whether the thing shows that no moves lead from start to goal."""
    rows, checked = _checked(places, own, loads)
    first, last = _check_ends(rows, own, checked, start, goal)
    if not isinstance(stuck, Stuck):
        return "kind"
    if not _are_lots(checked, stuck.lots):
        return "lots"
    if first not in stuck.lots:
        return "start"
    holding = _holding(rows, own, checked)
    if not all([lot in holding for lot in stuck.lots]):
        return "tips"
    if last in stuck.lots:
        return "goal"
    for lot in stuck.lots:
        out = [goal for goal in _goals_of(lot, len(checked), taking) if goal not in stuck.lots]
        if any([goal in holding for goal in out]):
            return "leads out"
    return None


def _are_lots(loads, thing):
    """Whether the thing is a sequence of unlike ascending tuples of unlike numbers of loads."""
    if not is_sequence(thing) or not all([is_lot(loads, lot) for lot in thing]):
        return False
    return len(set(list(thing))) == len(thing)


def _goals_of(lot, many, taking):
    """Return the lots after one move, whether they hold or not."""
    return [_after(lot, move) for move in range(many) if taking or move not in lot]


def some_order(places, own, loads):
    """Return the least order of laying all loads through lots that hold, or Stuck."""
    rows, checked = _checked(places, own, loads)
    return some_moves(rows, own, checked, (), tuple(range(len(checked))))


def _orders_to(holding):
    """Return a dict: for each lot that can be come to by laying, in how many orders."""
    many = {(): 1}
    for lot in holding[1:]:
        orders = sum([many.get(_after(lot, load), 0) for load in lot])
        if orders > 0:
            many[lot] = orders
    return many


def orders_many(places, own, loads):
    """Return how many orders of laying all loads lead through lots that hold."""
    rows, checked = _checked(places, own, loads)
    return _orders_to(_holding(rows, own, checked)).get(tuple(range(len(checked))), 0)


def laid_before(places, own, loads):
    """Return the couples (j, k) where j is laid before k in each order that leads through."""
    rows, checked = _checked(places, own, loads)
    loads_many = len(checked)
    holding = _holding(rows, own, checked)
    there = _orders_to(holding)
    whole = tuple(range(loads_many))
    if whole not in there:
        raise NoOrder(tuple(there))
    # The lots of some order: those that can be come to, and from which all loads can be laid.
    kept = {whole: True}
    for lot in holding[::-1]:
        if lot in there and any([goal in kept for goal in _goals_of(lot, loads_many, False)]):
            kept[lot] = True
    pairs = [(one, other) for one in whole for other in whole if one != other]
    return tuple([pair for pair in pairs if _keep_order(list(kept), pair)])


def _keep_order(lots, pair):
    """Whether each of the lots has the first one of the pair, or lacks the second one."""
    return all([pair[0] in lot or pair[1] not in lot for lot in lots])


def holding_lots(places, own, loads):
    """Yield all lots that hold, fewer loads first, equally many ascending."""
    rows, checked = _checked(places, own, loads)
    for lot in _holding(rows, own, checked):
        yield lot
