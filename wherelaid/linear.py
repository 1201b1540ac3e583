"""Rows of ratios: what they sum up to, what none of them sees, and determinants."""

from wherelaid.ratios import ONE, ZERO, least_of, negative, over, plus, sum_of, times


def product_of(row, other):
    """Return the sum of the products, entry by entry."""
    return sum_of([times(one, two) for one, two in zip(row, other)])


def unit_row(many, at):
    """Return a tuple of `many` ratios: 1 at the one place, 0 elsewhere."""
    return tuple([ONE if number == at else ZERO for number in range(many)])


def along_row(row, size, way):
    """Return row + size * way."""
    return tuple([plus(own, times(size, other)) for own, other in zip(row, way)])


def room_along(factors, way):
    """Return a ratio above 0, at most 1, so that factors + it * way are still above 0."""
    rooms = [ONE]
    for factor, step in zip(factors, way):
        if step[0] < 0:
            rooms.append(over(factor, negative(plus(step, step))))
    return least_of(rooms)


def amounts_or_way(rows, goal):
    """Return (amounts, None) if rows times amounts sum to the goal, else (None, way).

    The product of the way with each row is 0, that with the goal is not.
    """
    steps = _steps_of(rows)
    left = goal
    amounts = (ZERO,) * len(rows)
    for at, row, mix in steps:
        size = left[at]
        left = along_row(left, negative(size), row)
        amounts = along_row(amounts, size, mix)
    free = [at for at, part in enumerate(left) if part != ZERO]
    if not free:
        return (amounts, None)
    way = list(unit_row(len(goal), free[0]))
    for at, row, _ in steps:
        way[at] = negative(row[free[0]])
    return (None, tuple(way))


def _steps_of(rows):
    """Return rows that sum up to the same, as triples (column, row, mix).

    Each one has 1 in its column, in which all others have 0; the mix tells which rows make it up.
    """
    steps = []
    for number, given in enumerate(rows):
        row = given
        mix = unit_row(len(rows), number)
        for at, other, other_mix in steps:
            size = negative(row[at])
            row = along_row(row, size, other)
            mix = along_row(mix, size, other_mix)
        lead = [at for at, part in enumerate(row) if part != ZERO]
        if lead:
            steps = _with_step(steps, lead[0], row, mix)
    return steps


def _with_step(steps, at, row, mix):
    """Return the steps and one more, which leads in the column."""
    size = over(ONE, row[at])
    row = tuple([times(size, part) for part in row])
    mix = tuple([times(size, part) for part in mix])
    found = []
    for column, other, other_mix in steps:
        less = negative(other[at])
        found.append((column, along_row(other, less, row), along_row(other_mix, less, mix)))
    return [*found, (at, row, mix)]


def determinant_of(rows):
    """Return the determinant of whole numbers, as many rows as columns."""
    left = [list(row) for row in rows]
    sign = 1
    last = 1
    for at in range(len(left)):
        found = [row for row in range(at, len(left)) if left[row][at] != 0]
        if not found:
            return 0
        if found[0] != at:
            left[at], left[found[0]] = left[found[0]], left[at]
            sign = -sign
        lead = left[at]
        for row in range(at + 1, len(left)):
            # The pivot before divides what comes out, so that all stays whole.
            below = left[row][at]
            left[row] = [(lead[at] * own - below * top) // last for own, top in zip(left[row], lead)]
        last = lead[at]
    return sign * last
