"""Lots: ascending tuples of unlike numbers (point 0.6)."""


def lots_of(many, size):
    """Return all lots of `size` of the numbers from 0 to many - 1, ascending."""
    lots = [()]
    for _ in range(size):
        lots = [(*lot, number) for lot in lots for number in range(_next_of(lot), many)]
    return lots


def _next_of(lot):
    return lot[-1] + 1 if lot else 0
