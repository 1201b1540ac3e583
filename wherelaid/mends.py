"""Choices of edits that mend a weighing, and edits that spoil it again: points 10.8 to 10.10."""

from wherelaid.edits import after_edits, check_edits
from wherelaid.errors import BadEdit
from wherelaid.laying import is_lot
from wherelaid.lots import lots_of
from wherelaid.sequences import is_sequence
from wherelaid.wishes import check_wishes, fault_among, first_broken

MOST_POOL = 5


class Mends:
    """The least choices that are good, and for other choices the wish that they break."""

    def __init__(self, least, losses):
        self.least = least
        self.losses = losses

    @property
    def needed(self):
        """The lot of the indices in every least choice, () if there is none."""
        if not self.least:
            return ()
        return tuple([index for index in self.least[0] if all([index in choice for choice in self.least])])

    def __eq__(self, other):
        return isinstance(other, Mends) and self.least == other.least and self.losses == other.losses


class Spoiler:
    """A least choice, an index with which it is not good, and the wish that this breaks."""

    def __init__(self, choice, added, broken):
        self.choice = choice
        self.added = added
        self.broken = broken

    def __eq__(self, other):
        return (isinstance(other, Spoiler) and self.choice == other.choice
                and self.added == other.added and self.broken == other.broken)


def _check_pool(weighing, pool):
    """Return 1 to 5 edits as check_edits returns them, or raise BadEdit."""
    if not is_sequence(pool, 1, MOST_POOL):
        raise BadEdit(0, "pool")
    return check_edits(weighing, pool)


def _choices_of(many):
    """Return all choices in order."""
    return [choice for size in range(many + 1) for choice in lots_of(many, size)]


def _behind(weighing, edits, choice):
    """Return the weighing after the edits of the choice."""
    return after_edits(weighing, [edits[index] for index in choice])


def _is_part(choice, other):
    """Whether the other choice has all of this one."""
    return all([index in other for index in choice])


def _has_part(choices, other):
    """Whether one of the choices is a part of the other choice."""
    return any([_is_part(choice, other) for choice in choices])


def find_mends(weighing, pool, wishes):
    """Return the Mends of the pool."""
    edits = _check_pool(weighing, pool)
    checked = check_wishes(weighing, wishes)
    least = []
    losses = []
    # Parts of a choice come before it, and a good one has a least one as a part.
    for choice in _choices_of(len(edits)):
        if not _has_part(least, choice):
            broken = first_broken(_behind(weighing, edits, choice), checked)
            if broken is None:
                least.append(choice)
            else:
                losses.append((choice, broken))
    return Mends(tuple(least), tuple(losses))


def mends_fault(weighing, pool, wishes, mends):
    """Judge whether the thing is what find_mends may return, or as good."""
    edits = _check_pool(weighing, pool)
    checked = check_wishes(weighing, wishes)
    if not isinstance(mends, Mends) or not _are_choices(edits, mends.least):
        return "mends"
    if not _are_losses(edits, mends.losses):
        return "mends"
    lost = [choice for choice, _ in mends.losses]
    for choice in mends.least:
        others = [other for other in mends.least if other != choice]
        if any([_is_part(choice, other) for other in others + lost]):
            return "within"
    for choice in _choices_of(len(edits)):
        if not _has_part(mends.least, choice) and choice not in lost:
            return "lacking"
    for choice in mends.least:
        if first_broken(_behind(weighing, edits, choice), checked) is not None:
            return "good"
    for choice, broken in mends.losses:
        if fault_among(_behind(weighing, edits, choice), checked, broken) is not None:
            return "broken"
    return None


def _are_choices(edits, thing):
    """Whether the thing is a tuple of choices in order, none twice."""
    if not isinstance(thing, tuple) or not all([is_lot(edits, choice) for choice in thing]):
        return False
    orders = [(len(choice), choice) for choice in thing]
    return all([orders[at] < orders[at + 1] for at in range(len(orders) - 1)])


def _are_losses(edits, thing):
    """Whether the thing is a tuple of tuples of two entries, the first ones choices in order."""
    if not isinstance(thing, tuple):
        return False
    if not all([isinstance(couple, tuple) and len(couple) == 2 for couple in thing]):
        return False
    return _are_choices(edits, tuple([couple[0] for couple in thing]))


def find_spoilers(weighing, pool, wishes):
    """Return a Spoiler for each least choice and each index with which it is not good."""
    edits = _check_pool(weighing, pool)
    checked = check_wishes(weighing, wishes)
    spoilers = []
    for choice in find_mends(weighing, edits, checked).least:
        for added in range(len(edits)):
            if added not in choice:
                broken = first_broken(_behind(weighing, edits, sorted([*choice, added])), checked)
                if broken is not None:
                    spoilers.append(Spoiler(choice, added, broken))
    return tuple(spoilers)
