"""Marks between the axles of a cart, and which sums of weights ties make sure: points 7.5 to 7.7."""

from wherelaid.errors import BadCount, BadMarks, BadSum, BadTie
from wherelaid.lots import lots_of
from wherelaid.ratios import is_from_zero, is_whole, sum_of
from wherelaid.sequences import is_couple, is_sequence

MOST_AXLES = 8
MOST_TIES = 24
MOST_SUMS = 3


class Trail:
    """Links (number of a tie, 1 or -1) that lead from one mark to another."""

    def __init__(self, links):
        self.links = links

    def __eq__(self, other):
        return isinstance(other, Trail) and self.links == other.links


class Unsure:
    """Two rows of weights with equal sums for each tie, but not between the marks."""

    def __init__(self, one, other):
        self.one = one
        self.other = other

    def __eq__(self, other):
        return isinstance(other, Unsure) and self.one == other.one and self.other == other.other


def are_marks(count, low, high):
    """Whether these are marks with low < high."""
    return is_whole(low, 0, count) and is_whole(high, 0, count) and low < high


def check_count(count):
    """Raise BadCount if this is no number of axles."""
    if not is_whole(count, 1, MOST_AXLES):
        raise BadCount(count)


def check_ties(count, ties):
    """Return 0 to 24 ties as a tuple of tuples, or raise BadCount or BadTie."""
    check_count(count)
    if not is_sequence(ties, 0, MOST_TIES):
        raise BadTie(0, "many")
    for index, tie in enumerate(ties):
        if not is_couple(tie):
            raise BadTie(index, "tie")
        if not are_marks(count, tie[0], tie[1]):
            raise BadTie(index, "marks")
    return tuple([tuple(tie) for tie in ties])


def _check_both(count, ties, low, high):
    """Return the ties, or raise what is wrong with them or with the marks."""
    checked = check_ties(count, ties)
    if not are_marks(count, low, high):
        raise BadMarks(low, high)
    return checked


def blocks_among(count, ties):
    """Return what blocks_of returns, for any number of ties that are checked already."""
    homes = list(range(count + 1))
    for low, high in ties:
        old = homes[high]
        homes = [homes[low] if home == old else home for home in homes]
    firsts = [mark for mark in range(count + 1) if homes[mark] not in homes[:mark]]
    return tuple([tuple([mark for mark in range(count + 1) if homes[mark] == homes[first]]) for first in firsts])


def blocks_of(count, ties):
    """Return the greatest sets of marks that hang together, by their first marks."""
    return blocks_among(count, check_ties(count, ties))


def _block_with(count, ties, mark):
    """Return the block of the mark."""
    return [block for block in blocks_among(count, ties) if mark in block][0]


def sure_axles(count, ties):
    """Return the axles whose weights are sure by the ties."""
    checked = check_ties(count, ties)
    return tuple([axle for axle in range(count) if axle + 1 in _block_with(count, checked, axle)])


def sure_sum(count, ties, low, high):
    """Return a Trail with the fewest links if the sum between the marks is sure, else Unsure."""
    checked = _check_both(count, ties, low, high)
    links = _links_between(checked, low, high)
    return _unsure_at(count, checked, low) if links is None else Trail(links)


def _unsure_at(count, ties, mark):
    """Return Unsure for any two marks of which one is in the block of this mark."""
    block = _block_with(count, ties, mark)
    # As if all marks of the block were moved by 1: then nothing changes between two of them.
    moved = [1 if other in block else 0 for other in range(count + 1)]
    others = [(1 + moved[axle + 1] - moved[axle], 1) for axle in range(count)]
    return Unsure(((1, 1),) * count, tuple(others))


def _links_between(ties, low, high):
    """Return the links of a shortest trail from low to high, or None if there is none."""
    trails = {low: ()}
    queue = [low]
    at = 0
    while at < len(queue) and high not in trails:
        mark = queue[at]
        at += 1
        for number, tie in enumerate(ties):
            for sign, start, goal in ((1, tie[0], tie[1]), (-1, tie[1], tie[0])):
                if start == mark and goal not in trails:
                    trails[goal] = (*trails[mark], (number, sign))
                    queue.append(goal)
    return trails.get(high)


def trail_fault(count, ties, low, high, trail):
    """Judge whether the thing is what sure_sum may return for a sure sum."""
    checked = _check_both(count, ties, low, high)
    if not isinstance(trail, Trail) or not _are_links(checked, trail.links):
        return "links"
    mark = low
    for number, sign in trail.links:
        start, goal = checked[number] if sign == 1 else checked[number][::-1]
        if start != mark:
            return "walk"
        mark = goal
    if mark != high:
        return "walk"
    return None if len(trail.links) == len(_links_between(checked, low, high)) else "fewest"


def _are_links(ties, thing):
    """Whether the thing is a sequence of couples of a tie's number and 1 or -1."""
    if not is_sequence(thing) or not all([is_couple(link) for link in thing]):
        return False
    return all([is_whole(number, 0, len(ties) - 1) and is_whole(sign, -1, 1) and sign != 0 for number, sign in thing])


def unsure_fault(count, ties, low, high, unsure):
    """Judge whether the thing is what sure_sum may return for a sum that is not sure."""
    checked = _check_both(count, ties, low, high)
    if not isinstance(unsure, Unsure) or not _are_weights(count, unsure.one):
        return "one"
    if not _are_weights(count, unsure.other):
        return "other"
    for start, goal in checked:
        if sum_of(unsure.one[start:goal]) != sum_of(unsure.other[start:goal]):
            return "ties"
    return "sum" if sum_of(unsure.one[low:high]) == sum_of(unsure.other[low:high]) else None


def _are_weights(count, thing):
    """Whether the thing is a sequence of one ratio from 0 on for each axle."""
    if not is_sequence(thing, count, count):
        return False
    return all([is_from_zero(weight) for weight in thing])


def needless_ties(count, ties):
    """Return the ties each of which alone could be left out without a sum becoming unsure."""
    checked = check_ties(count, ties)
    blocks = blocks_among(count, checked)
    needless = []
    for number in range(len(checked)):
        if blocks_among(count, checked[:number] + checked[number + 1:]) == blocks:
            needless.append(number)
    return tuple(needless)


def fewest_ties(count, ties, sums):
    """Return as few ties as can be by which all these sums are sure, or Unsure if one is not."""
    checked = check_ties(count, ties)
    pairs = _check_sums(count, sums)
    for low, high in pairs:
        if high not in _block_with(count, checked, low):
            return _unsure_at(count, checked, low)
    # The sums whose marks hang together by the ties taken are a part of all sums, with as few
    # ties as hold their marks together.
    best = None
    for parts in _partings(pairs):
        taken = [tie for part in parts for tie in _fewest_between(count, checked, part)]
        if best is None or len(set(taken)) < len(best):
            best = sorted(set(taken))
    return tuple(best)


def _check_sums(count, sums):
    """Return 1 to 3 couples of marks as a tuple of tuples, or raise BadSum."""
    if not is_sequence(sums, 1, MOST_SUMS):
        raise BadSum(0, "many")
    for index, pair in enumerate(sums):
        if not is_couple(pair):
            raise BadSum(index, "sum")
        if not are_marks(count, pair[0], pair[1]):
            raise BadSum(index, "marks")
    return tuple([tuple(pair) for pair in sums])


def _partings(pairs):
    """Return all ways to part the pairs, each a list of parts, each part a list of pairs."""
    ways = [[]]
    for pair in pairs:
        alone = [[*parts, [pair]] for parts in ways]
        joined = [[*parts[:at], [*parts[at], pair], *parts[at + 1:]]
                  for parts in ways for at in range(len(parts))]
        ways = [*alone, *joined]
    return ways


def _fewest_between(count, ties, pairs):
    """Return as few ties as can be, if there are any, that hold all marks of the pairs together.

    All ties if nothing holds them together.
    """
    wanted = [mark for pair in pairs for mark in pair]
    for size in range(2, count + 2):
        for marks in lots_of(count + 1, size):
            if all([mark in marks for mark in wanted]):
                taken = _ties_through(ties, marks)
                if taken is not None:
                    return taken
    return list(range(len(ties)))


def _ties_through(ties, marks):
    """Return ties between these marks that hold all of them together, one less than marks, or None."""
    reached = [marks[0]]
    taken = []
    while len(reached) < len(marks):
        out = [number for number, tie in enumerate(ties) if _leads_on(tie, marks, reached)]
        if not out:
            return None
        taken.append(out[0])
        reached = reached + [mark for mark in ties[out[0]] if mark not in reached]
    return taken


def _leads_on(tie, marks, reached):
    """Whether the tie leads from a mark that is reached to another one of these marks."""
    ends = [mark in reached for mark in tie]
    return all([mark in marks for mark in tie]) and any(ends) and not all(ends)
