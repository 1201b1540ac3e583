"""Weighings, and edits of their scales, loads and own weights: points 10.1 to 10.3."""

from wherelaid.arms import is_arm, with_sizes
from wherelaid.errors import BadEdit, BadLoads
from wherelaid.laying import Own
from wherelaid.loads import check_loads, load_row, wrong_load
from wherelaid.places import is_place
from wherelaid.ratios import is_arm_size, is_factor, is_weight, is_whole
from wherelaid.scales import Plain, placed_at
from wherelaid.sequences import is_sequence

MOST_LOADS = 7
MOST_EDITS = 40
# How many entries an edit with this word has.
LENGTHS = {"arm": 3, "factor": 3, "leg": 3, "load": 2, "weight": 3, "own": 2}


class Weighing:
    """A scale with the own weight of its plate, and the loads on it."""

    def __init__(self, scale, own, loads):
        if is_sequence(loads, MOST_LOADS + 1):
            raise BadLoads(0, "many")
        self.scale = scale
        self.own = own
        self.loads = check_loads(loads)

    @property
    def borne(self):
        """The own weight as a load and, behind it, the loads."""
        return (self.own.as_load, *self.loads)

    def __eq__(self, other):
        return (isinstance(other, Weighing) and self.scale == other.scale
                and self.own == other.own and self.loads == other.loads)


def sets_factors(weighing):
    """Whether its edits set factors, as those of a Plain do, and not arms."""
    return isinstance(weighing.scale, Plain)


def _is_form(weighing, thing):
    """Whether the thing has the form of an edit of this weighing, whatever stands in it."""
    if not is_sequence(thing, 1) or not isinstance(thing[0], str):
        return False
    if thing[0] == ("arm" if sets_factors(weighing) else "factor"):
        return False
    return LENGTHS.get(thing[0]) == len(thing)


def check_edits(weighing, edits):
    """Return 0 to 40 edits as a tuple of tuples, or raise BadEdit."""
    if not is_sequence(edits, 0, MOST_EDITS):
        raise BadEdit(0, "many")
    checked = []
    for index, edit in enumerate(edits):
        what = wrong_edit(weighing, checked, edit)
        if what is not None:
            raise BadEdit(index, what)
        checked.append(edit_row(edit))
    return tuple(checked)


def wrong_edit(weighing, earlier, edit):
    """Return the first word that applies to the edit behind these earlier ones, or None."""
    if not _is_form(weighing, edit):
        return "edit"
    word = edit[0]
    if word == "arm":
        if not is_arm(weighing.scale, edit[1]):
            return "arm"
        return None if is_arm_size(edit[2]) else "size"
    if word == "factor":
        if not is_leg_of(weighing, edit[1]):
            return "leg"
        return None if is_factor(edit[2]) else "size"
    if word == "leg":
        return _wrong_move(weighing, earlier, edit[1], edit[2])
    if word == "load":
        room = MOST_LOADS - len(weighing.loads) - len([own for own in earlier if own[0] == "load"])
        return None if wrong_load(edit[1]) is None and room > 0 else "load"
    if word == "weight" and not is_whole(edit[1], 0, len(weighing.loads) - 1):
        return "load"
    return None if is_weight(edit[-1]) else "weight"


def is_leg_of(weighing, thing):
    """Whether the thing is the number of a leg."""
    return is_whole(thing, 0, len(weighing.scale) - 1)


def _wrong_move(weighing, earlier, leg, place):
    """Return the first word that applies to the place of a leg, or None."""
    if not is_leg_of(weighing, leg):
        return "leg"
    if not is_place(place):
        return "place"
    stands = [(other, there) for other, there in enumerate(weighing.scale.places)]
    stands = stands + [(other[1], other[2]) for other in earlier if other[0] == "leg"]
    # Places that other legs leave, or come under for a while, are barred too: so edits may be
    # left out or made in another order.
    taken = [there for other, there in stands if other != leg]
    return "twice" if tuple(place) in taken else None


def edit_row(edit):
    """Return the edit with its arm, place or load as tuples."""
    if edit[0] == "arm":
        return ("arm", tuple(edit[1]), edit[2])
    if edit[0] == "leg":
        return ("leg", edit[1], tuple(edit[2]))
    if edit[0] == "load":
        return ("load", load_row(edit[1]))
    return tuple(edit)


def after_edits(weighing, edits):
    """Return what weighing_after returns, for edits that are checked already."""
    loads = list(weighing.loads)
    own = weighing.own
    factors = list(weighing.scale.factors)
    places = list(weighing.scale.places)
    sizes = {}
    for edit in edits:
        word = edit[0]
        if word == "arm":
            sizes[edit[1]] = edit[2]
        elif word == "factor":
            factors[edit[1]] = edit[2]
        elif word == "leg":
            places[edit[1]] = edit[2]
        elif word == "load":
            loads.append(edit[1])
        elif word == "weight":
            loads[edit[1]] = (edit[2], loads[edit[1]][1])
        else:
            own = Own(edit[1], own.place)
    if sets_factors(weighing):
        return Weighing(Plain(places, factors), own, loads)
    return Weighing(placed_at(with_sizes(weighing.scale, sizes), places), own, loads)


def weighing_after(weighing, edits):
    """Return the weighing with all edits made one after another."""
    return after_edits(weighing, check_edits(weighing, edits))
