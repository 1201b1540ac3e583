"""Whole-number equations made so simple that each one has an unknown of its own."""


def diagonal_of(rows, unknowns):
    """Return (pivots, mixes, ways) for equations, each told by its numbers for so many unknowns.

    The new equation k has the new unknown k, as often as `pivots[k]` tells (0 where it has none),
    and no other one. It is the sum of the old equations, each as often as `mixes[k]` tells. The
    old unknown j is the sum of the new ones, each as often as `ways[j]` tells.
    """
    many = len(rows)
    # Behind each row stands which old rows it is made of, below them all which new unknowns
    # make up each old one.
    table = [[*row, *_unit_row(number, many)] for number, row in enumerate(rows)]
    table = table + [_unit_row(number, unknowns) for number in range(unknowns)]
    at = 0
    while at < min(many, unknowns):
        spot = _least_spot(table, at, many, unknowns)
        if spot is None:
            break
        _bring(table, at, spot)
        if _clear(table, at, many, unknowns):
            at += 1
    pivots = [table[number][number] if number < unknowns else 0 for number in range(many)]
    return (pivots, [row[unknowns:] for row in table[:many]], table[many:])


def _unit_row(at, many):
    return [1 if number == at else 0 for number in range(many)]


def _least_spot(table, at, many, unknowns):
    """Return (row, column) of the number nearest to 0, but not 0, from row and column `at` on."""
    spots = []
    for row in range(at, many):
        for column in range(at, unknowns):
            if table[row][column] != 0:
                spots.append((abs(table[row][column]), row, column))
    return min(spots)[1:] if spots else None


def _bring(table, at, spot):
    """Exchange rows and columns so that the number at the spot comes to row and column `at`."""
    row, column = spot
    table[at], table[row] = table[row], table[at]
    for line in table:
        line[at], line[column] = line[column], line[at]


def _clear(table, at, many, unknowns):
    """Make the numbers below and beside row and column `at` 0, as far as its pivot divides them.

    Return whether all of them are 0 then; otherwise one is nearer to 0 than the pivot.
    """
    pivot = table[at][at]
    for row in range(at + 1, many):
        often = table[row][at] // pivot
        table[row] = [own - often * other for own, other in zip(table[row], table[at])]
    for column in range(at + 1, unknowns):
        often = table[at][column] // pivot
        for line in table:
            line[column] = line[column] - often * line[at]
    below = [table[row][at] for row in range(at + 1, many)]
    return not any(below) and not any(table[at][at + 1:unknowns])
