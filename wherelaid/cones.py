"""Whether a column is a sum of others with shares from 0 on, and what shows that it is not."""

from wherelaid.linear import along_row, unit_row
from wherelaid.ratios import ONE, ZERO, compare, negative, over, sum_of, times


def shares_or_bar(columns, goal):
    """Return (shares, None) if columns times shares from 0 on sum to the goal, else (None, bar).

    The product of the bar with each column is from 0 on, that with the goal is below 0.
    """
    many = len(columns)
    table = [_row_at(columns, goal, at) for at in range(len(goal))]
    # Which column each row has a share of. At first each row has a column of its own beside
    # those given, told by a number below 0: such a share has to go.
    owners = list(range(-len(goal), 0))
    while True:
        # The first column and row that will do are taken: so nothing is gone through twice.
        column = _entering(table, owners, many)
        if column is None:
            break
        row = _leaving(table, owners, column)
        owners[row] = column
        _turn(table, row, column)
    wrong = [row for row, owner in zip(table, owners) if owner < 0]
    if all([row[-1] == ZERO for row in wrong]):
        found = {owner: row[-1] for row, owner in zip(table, owners)}
        return (tuple([found.get(at, ZERO) for at in range(many)]), None)
    bar = []
    for at, part in enumerate(goal):
        size = sum_of([row[many + at] for row in wrong])
        bar.append(size if part[0] < 0 else negative(size))
    return (None, tuple(bar))


def _row_at(columns, goal, at):
    """Return the row: its parts of the columns, its own column, and its part of the goal from 0 on."""
    parts = [column[at] for column in columns]
    if goal[at][0] < 0:
        parts = [negative(part) for part in parts]
    top, bottom = goal[at]
    return (*parts, *unit_row(len(goal), at), (abs(top), bottom))


def _entering(table, owners, many):
    """Return the first column that lessens the shares that have to go, or None."""
    wrong = [row for row, owner in zip(table, owners) if owner < 0]
    for column in range(many):
        if sum_of([row[column] for row in wrong])[0] > 0:
            return column
    return None


def _leaving(table, owners, column):
    """Return the row that first comes to 0 as the column's share grows; of equal ones the least owner."""
    best = None
    for number, row in enumerate(table):
        if row[column][0] > 0:
            size = over(row[-1], row[column])
            order = 1 if best is None else compare(best[0], size)
            if order > 0 or (order == 0 and owners[number] < owners[best[1]]):
                best = (size, number)
    return best[1]


def _turn(table, row, column):
    """Make the column 1 in the row and 0 in all others."""
    size = over(ONE, table[row][column])
    lead = tuple([times(size, part) for part in table[row]])
    for number in range(len(table)):
        table[number] = lead if number == row else along_row(table[number], negative(table[number][column]), lead)
