"""What the tests of part 10 need: weighings of many kinds, edits, wishes, and other things."""

import random
from fractions import Fraction

from tests.helper import LAYOUTS, chain, corners, levers, place, ratio, scale
from wherelaid.arms import arms_of
from wherelaid.edits import Weighing
from wherelaid.laying import Own
from wherelaid.scales import Lever, Plain, Scale

ZERO, ONE = ratio(0), ratio(1)
OWN = Own(ratio(10), place(2, 1))
LOADS = ((ratio(3), place(2, 1)), (ratio(30), place(5, 1)), (ratio(2), place(-1, 0)))


def flat_scale():
    """A scale on three levers whose factors are 1 + x / 4 + y / 2."""
    return Scale([Lever(ONE), Lever(ratio(2), 0, ONE), Lever(ONE, 0, ratio(2))],
                 [(0, ONE), (1, ratio(4)), (2, ratio("3/2")), (1, ratio(4))], corners())


def even_scale():
    """A scale on four levers whose factors are all 1."""
    return Scale(levers(), [(0, ratio(3)), (1, ratio(30)), (2, ratio("21/4")), (0, ratio(3))], corners())


def plain_with(*factors, places=None):
    return Plain(corners() if places is None else places, [ratio(factor) for factor in factors])


def on_scale(loads=LOADS):
    return Weighing(flat_scale(), OWN, loads)


def on_plain(loads=LOADS):
    return Weighing(plain_with(1, 2, 3, 2), OWN, loads)


def weighings(seed=1):
    """Weighings on scales of both classes: even, settled and neither, with 0 to 7 loads, each with a name."""
    lot = random.Random(seed)
    scales = {
        "flat": flat_scale(), "even": even_scale(), "mixed": scale(),
        "row": Scale(chain(3, 2, 3), [(0, ONE), (1, ratio(2)), (2, ONE)], LAYOUTS["three in a row"]),
        "two": Scale(chain(2, 3, "1/2"), [(0, ONE), (1, ONE)], LAYOUTS["two"]),
        "plain": plain_with(1, 2, 3, 2), "plain even": plain_with(2, 2, 2, 2),
        "plain bent": plain_with(1, 2, 4, 2), "crossed": plain_with(1, 1, 3, 3, 2, places=LAYOUTS["crossed"]),
        "plain row": plain_with(2, 1, 4, places=LAYOUTS["three in a row"]),
        "triangle": plain_with(1, 2, 4, places=LAYOUTS["triangle"]),
    }
    for name, one in scales.items():
        for many in (0, 1, 3, 7):
            loads = [(ratio(lot.choice((0, 1, 2, 5))), lot.choice(
                (*one.places, place(2, 1), place(5, 1), place(-1, 0), place(9, 9)))) for _ in range(many)]
            where = lot.choice(one.places) if many % 3 else lot.choice((place(2, 1), place(2, 1), place(9, 9)))
            yield f"{name} {many}", Weighing(one, Own(ratio(lot.choice((0, 3, 10, 40))), where), loads)


def some_size(lot):
    return ratio(Fraction(lot.choice((1, 2, 3, 5)), lot.choice((1, 1, 2, 3))))


def some_edit(weighing, lot):
    """One edit that may be right or, as "leg" or "load", be refused."""
    one = weighing.scale
    words = ["leg", "load", "own"] + (["factor"] * 2 if isinstance(one, Plain) else ["arm"] * 2)
    word = lot.choice(words + (["weight"] * 2 if weighing.loads else []))
    spot = place(lot.randint(-2, 6), lot.randint(-2, 4))
    if word == "arm":
        return ("arm", lot.choice(arms_of(one)), some_size(lot))
    if word == "factor":
        return ("factor", lot.randrange(len(one)), some_size(lot))
    if word == "leg":
        return ("leg", lot.randrange(len(one)), lot.choice((spot, spot, lot.choice(one.places))))
    if word == "load":
        return ("load", (ratio(lot.choice((0, 1, 4))), spot))
    if word == "weight":
        return ("weight", lot.randrange(len(weighing.loads)), ratio(lot.choice((0, 1, 5, "7/2"))))
    return ("own", ratio(lot.choice((0, 1, 20, 60))))
