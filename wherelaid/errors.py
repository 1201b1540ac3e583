"""All errors of the package: each one stands directly under `ScaleError`.

They stand in the order of the document's interface, each with its attributes in the order of
its arguments. One empty line parts them, not two, so that all of them fit into one file.
"""


class ScaleError(ValueError):
    """Every error that the package raises on its own."""

class BadRatio(ScaleError):
    def __init__(self, what):
        self.what = what

class BadPlace(ScaleError):
    def __init__(self, place):
        self.place = place

class BadPlaces(ScaleError):
    def __init__(self, index, what):
        self.index = index
        self.what = what

class BadSize(ScaleError):
    def __init__(self, size):
        self.size = size

class NoLeg(ScaleError):
    def __init__(self, leg):
        self.leg = leg

class BadLever(ScaleError):
    def __init__(self, what):
        self.what = what

class BadScale(ScaleError):
    def __init__(self, index, what):
        self.index = index
        self.what = what

class BadPlain(ScaleError):
    def __init__(self, index, what):
        self.index = index
        self.what = what

class NoArm(ScaleError):
    def __init__(self, arm):
        self.arm = arm

class NoLever(ScaleError):
    def __init__(self, lever):
        self.lever = lever

class TwicePlace(ScaleError):
    def __init__(self, leg):
        self.leg = leg

class BadLoads(ScaleError):
    def __init__(self, index, what):
        self.index = index
        self.what = what

class NoCentre(ScaleError):
    def __init__(self, many):
        self.many = many

class BadText(ScaleError):
    def __init__(self, row):
        self.row = row

class BeyondSide(ScaleError):
    def __init__(self, side):
        self.side = side

class BadPushes(ScaleError):
    def __init__(self, index, what):
        self.index = index
        self.what = what

class BadShowing(ScaleError):
    def __init__(self, showing):
        self.showing = showing

class OutOfRange(ScaleError):
    def __init__(self, least, greatest):
        self.least = least
        self.greatest = greatest

class NoSwap(ScaleError):
    def __init__(self, numbers):
        self.numbers = numbers

class BadError(ScaleError):
    def __init__(self, error):
        self.error = error

class BadValues(ScaleError):
    def __init__(self, index, what):
        self.index = index
        self.what = what

class BadMonomial(ScaleError):
    def __init__(self, index, what):
        self.index = index
        self.what = what

class BadCasting(ScaleError):
    def __init__(self, index, what):
        self.index = index
        self.what = what

class NoLetter(ScaleError):
    def __init__(self, letter):
        self.letter = letter

class BadAim(ScaleError):
    def __init__(self, wish):
        self.wish = wish

class NotSo(ScaleError):
    def __init__(self, wish):
        self.wish = wish

class BadStretches(ScaleError):
    def __init__(self, index, what):
        self.index = index
        self.what = what

class TwoWays(ScaleError):
    def __init__(self, letter):
        self.letter = letter

class BadOwn(ScaleError):
    def __init__(self, what):
        self.what = what

class BadLot(ScaleError):
    def __init__(self, lot):
        self.lot = lot

class NoSide(ScaleError):
    def __init__(self, side):
        self.side = side

class BadWeight(ScaleError):
    def __init__(self, weight):
        self.weight = weight

class TipsAlready(ScaleError):
    def __init__(self, side, lot):
        self.side = side
        self.lot = lot

class LotTips(ScaleError):
    def __init__(self, side):
        self.side = side

class NoOrder(ScaleError):
    def __init__(self, lots):
        self.lots = lots

class BadTests(ScaleError):
    def __init__(self, index, what):
        self.index = index
        self.what = what

class BadPlan(ScaleError):
    def __init__(self, index, what):
        self.index = index
        self.what = what

class BadRow(ScaleError):
    def __init__(self, index):
        self.index = index

class BadPool(ScaleError):
    def __init__(self, index, what):
        self.index = index
        self.what = what

class BadGoal(ScaleError):
    def __init__(self, goal):
        self.goal = goal

class NotHidden(ScaleError):
    def __init__(self, leg):
        self.leg = leg

class TooMany(ScaleError):
    def __init__(self, most):
        self.most = most

class BadCart(ScaleError):
    def __init__(self, index, what):
        self.index = index
        self.what = what

class BadAmount(ScaleError):
    def __init__(self, amount):
        self.amount = amount

class BadLength(ScaleError):
    def __init__(self, length):
        self.length = length

class BadShift(ScaleError):
    def __init__(self, shift):
        self.shift = shift

class BadCount(ScaleError):
    def __init__(self, many):
        self.many = many

class BadTie(ScaleError):
    def __init__(self, index, what):
        self.index = index
        self.what = what

class BadMarks(ScaleError):
    def __init__(self, low, high):
        self.low = low
        self.high = high

class BadSum(ScaleError):
    def __init__(self, index, what):
        self.index = index
        self.what = what

class BadTelling(ScaleError):
    def __init__(self, index, what):
        self.index = index
        self.what = what

class BadTieShowings(ScaleError):
    def __init__(self, showings):
        self.showings = showings

class BadSlack(ScaleError):
    def __init__(self, slack):
        self.slack = slack

class NotMet(ScaleError):
    def __init__(self, amount):
        self.amount = amount

class NoFit(ScaleError):
    def __init__(self, many):
        self.many = many

class BadGroups(ScaleError):
    def __init__(self, index, what):
        self.index = index
        self.what = what

class BadShowings(ScaleError):
    def __init__(self, index, what):
        self.index = index
        self.what = what

class BadTotal(ScaleError):
    def __init__(self, total):
        self.total = total

class NothingShown(ScaleError):
    def __init__(self, showings):
        self.showings = showings

class BadDirection(ScaleError):
    def __init__(self, direction):
        self.direction = direction

class BadMany(ScaleError):
    def __init__(self, many):
        self.many = many

class BadWeights(ScaleError):
    def __init__(self, index, what):
        self.index = index
        self.what = what

class BadStep(ScaleError):
    def __init__(self, step):
        self.step = step

class BadShown(ScaleError):
    def __init__(self, shown):
        self.shown = shown

class BadPans(ScaleError):
    def __init__(self, what):
        self.what = what

class BadPan(ScaleError):
    def __init__(self, pan):
        self.pan = pan

class BadPoise(ScaleError):
    def __init__(self, poise):
        self.poise = poise

class BadPoises(ScaleError):
    def __init__(self, index, what):
        self.index = index
        self.what = what

class OtherPans(ScaleError):
    def __init__(self, index):
        self.index = index

class BadReading(ScaleError):
    def __init__(self, index, what):
        self.index = index
        self.what = what

class NoLoad(ScaleError):
    def __init__(self, load):
        self.load = load

class BadSquare(ScaleError):
    def __init__(self, square):
        self.square = square

class BadEdit(ScaleError):
    def __init__(self, index, what):
        self.index = index
        self.what = what

class BadWish(ScaleError):
    def __init__(self, index):
        self.index = index

class BadSlot(ScaleError):
    def __init__(self, slot):
        self.slot = slot

class NoEdit(ScaleError):
    def __init__(self, number):
        self.number = number
