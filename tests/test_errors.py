"""Point 0.8 and the list of errors in the interface."""

import unittest

from tests.helper import Case
from wherelaid import errors

LISTED = """
BadRatio(what), BadPlace(place), BadPlaces(index, what), BadSize(size), NoLeg(leg), BadLever(what),
BadScale(index, what), BadPlain(index, what), NoArm(arm), NoLever(lever), TwicePlace(leg),
BadLoads(index, what), NoCentre(many), BadText(row), BeyondSide(side), BadPushes(index, what),
BadShowing(showing), OutOfRange(least, greatest), NoSwap(numbers), BadError(error),
BadValues(index, what), BadMonomial(index, what), BadCasting(index, what), NoLetter(letter),
BadAim(wish), NotSo(wish), BadStretches(index, what), TwoWays(letter), BadOwn(what), BadLot(lot),
NoSide(side), BadWeight(weight), TipsAlready(side, lot), LotTips(side), NoOrder(lots),
BadTests(index, what), BadPlan(index, what), BadRow(index), BadPool(index, what), BadGoal(goal),
NotHidden(leg), TooMany(most), BadCart(index, what), BadAmount(amount), BadLength(length),
BadShift(shift), BadCount(many), BadTie(index, what), BadMarks(low, high), BadSum(index, what),
BadTelling(index, what), BadTieShowings(showings), BadSlack(slack), NotMet(amount), NoFit(many),
BadGroups(index, what), BadShowings(index, what), BadTotal(total), NothingShown(showings),
BadDirection(direction), BadMany(many), BadWeights(index, what), BadStep(step), BadShown(shown),
BadPans(what), BadPan(pan), BadPoise(poise), BadPoises(index, what), OtherPans(index),
BadReading(index, what), NoLoad(load), BadSquare(square), BadEdit(index, what), BadWish(index),
BadSlot(slot), NoEdit(number)
"""


def listed():
    """The couples (name, names of the attributes) of all errors."""
    rows = []
    for row in LISTED.replace("\n", " ").split("),"):
        name, names = row.strip().rstrip(")").split("(")
        rows.append((name, names.split(", ")))
    return rows


class Errors(Case):

    def test_all_of_them_and_no_others(self):
        found = [name for name, thing in vars(errors).items() if isinstance(thing, type)]
        self.assertEqual(sorted(found), sorted(["ScaleError"] + [name for name, _ in listed()]))
        self.assertEqual(len(listed()), 76)

    def test_where_they_stand(self):
        self.assertEqual(errors.ScaleError.__bases__, (ValueError,))
        for name, _ in listed():
            self.assertEqual(getattr(errors, name).__bases__, (errors.ScaleError,), name)
            self.assertEqual(getattr(errors, name).__module__, "wherelaid.errors")

    def test_attributes_in_their_order(self):
        for name, names in listed():
            told = [object() for _ in names]
            by_place = getattr(errors, name)(*told)
            self.assertEqual(list(vars(by_place)), names, name)
            for attribute, thing in zip(names, told):
                self.assertIs(getattr(by_place, attribute), thing, name)
            by_name = getattr(errors, name)(**dict(zip(names, told)))
            self.assertEqual(vars(by_name), vars(by_place), name)
            with self.assertRaises(TypeError):
                getattr(errors, name)(*told, None)

    def test_they_are_caught_as_told(self):
        for name, names in listed():
            for caught in (ValueError, errors.ScaleError, getattr(errors, name)):
                with self.assertRaises(caught):
                    raise getattr(errors, name)(*names)


if __name__ == "__main__":
    unittest.main()
