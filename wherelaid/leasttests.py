"""The fewest places of a pool that serve a goal: point 6.8."""

from wherelaid.errors import BadGoal, BadPool
from wherelaid.evenplans import check_choices, flat_rows
from wherelaid.lots import lots_of
from wherelaid.places import check_places
from wherelaid.plans import lean_at, told_legs, wrong_stand
from wherelaid.ratios import is_whole
from wherelaid.sequences import is_couple, is_sequence

MOST_PLACES = 8


def least_tests(places, pool, goal):
    """Return all lots of the pool with the fewest places that serve the goal, ascending."""
    rows = check_places(places)
    checked = _check_pool(rows, pool)
    _check_goal(len(rows), goal)
    lean = lean_at(rows, checked)
    if goal == "even":
        return _even_lots(lean, len(rows))
    wanted = tuple(range(len(rows))) if goal == "all" else (goal[1],)
    for size in range(1, len(lean) + 1):
        lots = [lot for lot in lots_of(len(lean), size) if _tells_all(lean, lot, wanted)]
        if lots:
            return tuple(lots)
    return ()


def _check_pool(places, pool):
    """Return the pool as a tuple of tuples, or raise BadPool."""
    if not is_sequence(pool, 1, MOST_PLACES):
        raise BadPool(0, "many")
    wrong = wrong_stand(places, pool)
    if wrong is not None:
        index, what = wrong
        raise BadPool(index, what)
    return tuple([tuple(place) for place in pool])


def _check_goal(legs, goal):
    """Return the goal, or raise BadGoal."""
    if goal in ("all", "even"):
        return goal
    if not is_couple(goal) or goal[0] != "leg" or not is_whole(goal[1], 0, legs - 1):
        raise BadGoal(goal)
    return goal


def _even_lots(lean, legs):
    """Return all lots that are even plans, or raise TooMany."""
    lots = lots_of(len(lean), legs)
    for lot in lots:
        check_choices([len(lean[place]) for place in lot])
    return tuple([lot for lot in lots if flat_rows([lean[place] for place in lot]) is None])


def _tells_all(lean, lot, wanted):
    """Whether the places of the lot tell the factors of all the legs wanted."""
    rows = [lean[place][0] for place in lot if len(lean[place]) == 1]
    told = told_legs(rows, len(lean[0][0]))
    return all([leg in told for leg in wanted])
