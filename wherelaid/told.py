"""What tests at places with one way to share tell of the factors: points 6.2 to 6.4."""

from wherelaid.cones import shares_or_bar
from wherelaid.fits import tests_within
from wherelaid.linear import along_row, amounts_or_way, product_of, room_along, unit_row
from wherelaid.places import check_places
from wherelaid.pushes import only_pushes
from wherelaid.ratios import ONE, ZERO, negative, over, plus, sum_of


class Told:
    """Factors that fit the tests, and for each leg whether all such factors agree on it."""

    def __init__(self, sure, amounts, fitting, others):
        self.sure = sure
        self.amounts = amounts
        self.fitting = fitting
        self.others = others

    def __eq__(self, other):
        return (isinstance(other, Told) and self.sure == other.sure
                and self.amounts == other.amounts and self.fitting == other.fitting
                and self.others == other.others)


class Clash:
    """Amounts of the tests that show that no factors above 0 fit them."""

    def __init__(self, amounts):
        self.amounts = amounts

    def __eq__(self, other):
        return isinstance(other, Clash) and self.amounts == other.amounts


def told_by(places, tests):
    """Return Told, or Clash if no factors above 0 fit the tests at one-way places."""
    rows = check_places(places)
    checked = tests_within(rows, tests)
    pushes = [only_pushes(rows, place) for place, _ in checked]
    # A shared place tells nothing: a row of zeros, with the showing 0.
    pushed = [(ZERO,) * len(rows) if row is None else row for row in pushes]
    showings = [ZERO if row is None else test[1] for row, test in zip(pushes, checked)]
    fitting, amounts = _fitting_or_amounts(pushed, showings, len(rows))
    if fitting is None:
        return Clash(_at_one_way(amounts, pushes))
    sure = []
    told = []
    others = []
    for leg in range(len(rows)):
        mix, way = amounts_or_way(pushed, unit_row(len(rows), leg))
        sure.append(None if mix is None else product_of(mix, showings))
        told.append(None if mix is None else _at_one_way(mix, pushes))
        others.append(None if way is None else _moved_along(fitting, way))
    return Told(tuple(sure), tuple(told), fitting, tuple(others))


def _at_one_way(amounts, pushes):
    """Return the amounts with 0 at shared places."""
    return tuple([ZERO if row is None else amount for row, amount in zip(pushes, amounts)])


def _fitting_or_amounts(pushed, showings, legs):
    """Return (factors above 0 that fit, None), or (None, amounts of a Clash)."""
    columns = [tuple([row[leg] for row in pushed]) for leg in range(legs)]
    columns.append(tuple([negative(showing) for showing in showings]))
    # Factors and a number above 0 for the showings with equal sums may all be made 1 or more.
    goal = tuple([negative(sum_of([column[at] for column in columns])) for at in range(len(pushed))])
    shares, bar = shares_or_bar(columns, goal)
    if shares is None:
        return (None, bar)
    sizes = [plus(ONE, share) for share in shares]
    return (tuple([over(size, sizes[-1]) for size in sizes[:-1]]), None)


def _moved_along(factors, way):
    """Return other factors above 0: these, moved along the way."""
    return along_row(factors, room_along(factors, way), way)
