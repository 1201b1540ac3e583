"""Wishes for a weighing, and the first one that it does not grant: points 10.4 and 10.5."""

from wherelaid.always import FailsEven, FailsSettled, always_even, always_settled
from wherelaid.castings import Casting
from wherelaid.cores import Shows, shows_at
from wherelaid.edits import is_leg_of, sets_factors
from wherelaid.errors import BadCasting, BadGroups, BadWish
from wherelaid.even import Uneven, outside_error, uneven_of
from wherelaid.groups import Groups
from wherelaid.hulls import Side, first_beyond
from wherelaid.laying import Tipping, first_tipping
from wherelaid.ratios import compare, is_arm_size, is_weight, is_whole, minus
from wherelaid.sequences import is_couple, is_sequence
from wherelaid.settled import Unsettled, is_settled, settled_of
from wherelaid.skins import Range, Tips, range_of
from wherelaid.sums import sure_total

MOST_WISHES = 6
# How many entries a wish with this word has.
LENGTHS = {
    "settled": 1, "even": 1, "within": 3, "any order": 1, "sure total": 2, "never shows": 2,
    "always even": 2, "always settled": 2, "told within": 2,
}


class Broken:
    """The first wish that is not granted, and what shows it."""

    def __init__(self, index, why):
        self.index = index
        self.why = why

    def __eq__(self, other):
        return isinstance(other, Broken) and self.index == other.index and self.why == other.why


def check_wishes(weighing, wishes):
    """Return 1 to 6 wishes as a tuple of tuples, or raise BadWish."""
    return wishes_with(weighing, wishes, tuple(LENGTHS))


def wishes_with(weighing, wishes, words):
    """Return what check_wishes returns; only wishes with these words count as wishes."""
    if not is_sequence(wishes, 1, MOST_WISHES):
        raise BadWish(0)
    checked = []
    for index, wish in enumerate(wishes):
        row = _wish_row(weighing, wish)
        if row is None or row[0] not in words:
            raise BadWish(index)
        checked.append(row)
    return tuple(checked)


def _wish_row(weighing, thing):
    """Return the wish as a tuple, its rows as Groups and Casting keep them; None if it is none."""
    if not is_sequence(thing, 1) or not isinstance(thing[0], str):
        return None
    word = thing[0]
    if LENGTHS.get(word) != len(thing):
        return None
    if word == "sure total":
        return _with_rows(word, _group_rows(weighing, thing[1]))
    if word in ("always even", "always settled"):
        return _with_rows(word, _casting_rows(weighing, thing[1]))
    if word == "within":
        right = is_arm_size(thing[1]) and is_weight(thing[2])
    elif word == "never shows":
        right = is_leg_of(weighing, thing[1])
    else:
        right = word != "told within" or is_weight(thing[1])
    return tuple(thing) if right else None


def _with_rows(word, rows):
    return None if rows is None else (word, rows)


def _group_rows(weighing, rows):
    """Return the rows as Groups keep them, None if they accept them not."""
    try:
        return Groups(weighing.scale, rows).rows
    except BadGroups:
        return None


def _casting_rows(weighing, rows):
    """Return the rows as a Casting keeps them, None if it accepts them not."""
    if sets_factors(weighing):
        return None
    try:
        return Casting(weighing.scale, rows).rows
    except BadCasting:
        return None


def _settled_why(weighing, wish):
    return None if is_settled(weighing.scale) else settled_of(weighing.scale)


def _even_why(weighing, wish):
    return uneven_of(weighing.scale)


def _within_why(weighing, wish):
    return outside_error(weighing.scale, wish[1], wish[2])


def _order_why(weighing, wish):
    places = weighing.scale.places
    side = first_beyond(places, weighing.own.place)
    if side is not None:
        return side
    return first_tipping(places, weighing.own.as_load, weighing.loads)


def _total_why(weighing, wish):
    return sure_total(Groups(weighing.scale, wish[1]))


def _shows_why(weighing, wish):
    return shows_at(weighing.scale, wish[1])


def _always_even_why(weighing, wish):
    return always_even(Casting(weighing.scale, wish[1]))


def _always_settled_why(weighing, wish):
    return always_settled(Casting(weighing.scale, wish[1]))


def _told_why(weighing, wish):
    told = range_of(weighing.scale, weighing.borne)
    if isinstance(told, Tips):
        return told
    return told if compare(minus(told.greatest, told.least), wish[1]) > 0 else None


# What shows that a weighing does not grant a wish with this word, None if it does.
WHYS = {
    "settled": _settled_why,
    "even": _even_why,
    "within": _within_why,
    "any order": _order_why,
    "sure total": _total_why,
    "never shows": _shows_why,
    "always even": _always_even_why,
    "always settled": _always_settled_why,
    "told within": _told_why,
}


def _why_not(weighing, wish):
    """Return None if the weighing grants the wish, else what shows that it does not."""
    judge = WHYS[wish[0]]
    return judge(weighing, wish)


def first_broken(weighing, wishes):
    """Return what broken_wish returns, for wishes that are checked already."""
    for index, wish in enumerate(wishes):
        why = _why_not(weighing, wish)
        if why is not None:
            return Broken(index, why)
    return None


def broken_wish(weighing, wishes):
    """Return None if all wishes are granted, else Broken with the first one that is not."""
    return first_broken(weighing, check_wishes(weighing, wishes))


def broken_fault(weighing, wishes, broken):
    """Judge whether the thing is a Broken with a wish that is not granted."""
    return fault_among(weighing, check_wishes(weighing, wishes), broken)


def fault_among(weighing, wishes, broken):
    """Return what broken_fault returns, for wishes that are checked already."""
    if not isinstance(broken, Broken):
        return "broken"
    if not is_whole(broken.index, 0, len(wishes) - 1):
        return "index"
    right = _why_not(weighing, wishes[broken.index])
    if right is None:
        return "granted"
    return None if _is_alike(weighing, right, broken.why) else "why"


def _is_alike(weighing, right, why):
    """Whether the why is a leg, two legs or of one class, just as the right one is."""
    if isinstance(right, tuple):
        return isinstance(why, tuple) and is_couple(why) and all([is_leg_of(weighing, leg) for leg in why])
    if is_whole(right):
        return is_leg_of(weighing, why)
    return _classes_of(why) == _classes_of(right)


def _classes_of(why):
    """Return for each class of what shows that a wish is not granted whether this is one."""
    return [
        isinstance(why, Unsettled), isinstance(why, Uneven), isinstance(why, Side),
        isinstance(why, Tipping), isinstance(why, Shows), isinstance(why, FailsEven),
        isinstance(why, FailsSettled), isinstance(why, Range), isinstance(why, Tips),
    ]
