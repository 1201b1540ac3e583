"""The arms of a scale, and scales with one thing changed: points 1.7 and 1.8."""

from wherelaid.errors import BadSize, NoArm, NoLever, TwicePlace
from wherelaid.places import check_leg, check_place
from wherelaid.ratios import check_size, is_factor, is_whole
from wherelaid.scales import Lever, Plain, Scale, placed_at
from wherelaid.sequences import is_couple


def arms_of(scale):
    """Return all arms: lever by lever "out" and "inward", then the seats."""
    if isinstance(scale, Plain):
        return ()
    arms = []
    for number, lever in enumerate(scale.levers):
        arms.append(("out", number))
        if lever.above is not None:
            arms.append(("inward", number))
    for leg in range(len(scale)):
        arms.append(("seat", leg))
    return tuple(arms)


def is_arm(scale, thing):
    """Whether the thing is an arm of the scale."""
    # True is equal to 1, so that to look among the arms would not be enough.
    return is_couple(thing) and is_whole(thing[1]) and tuple(thing) in arms_of(scale)


def check_arm(scale, arm):
    """Return the arm as a tuple, or raise NoArm."""
    if not is_arm(scale, arm):
        raise NoArm(arm)
    return tuple(arm)


def check_lever(scale, lever):
    """Return the number of a lever, or raise NoLever; a Plain has none."""
    many = 0 if isinstance(scale, Plain) else len(scale.levers)
    if not is_whole(lever, 0, many - 1):
        raise NoLever(lever)
    return lever


def arm_size(scale, arm):
    """Return the size of the arm."""
    word, number = check_arm(scale, arm)
    if word == "seat":
        return scale.legs[number][1]
    lever = scale.levers[number]
    return lever.out if word == "out" else lever.inward


def way_of(scale, leg):
    """Return the couples (arm, power) from the leg's seat up to the out arm of the beam."""
    check_leg(scale, leg)
    if isinstance(scale, Plain):
        return ()
    lever = scale.legs[leg][0]
    way = [(("seat", leg), 1), (("out", lever), -1)]
    while lever != 0:
        way.append((("inward", lever), 1))
        lever = scale.levers[lever].above
        way.append((("out", lever), -1))
    return tuple(way)


def on_lever(scale, lever):
    """Return the arms that lie on the lever, in the order of arms_of."""
    check_lever(scale, lever)
    return tuple([arm for arm in arms_of(scale) if _lever_under(scale, arm) == lever])


def _lever_under(scale, arm):
    """Return the number of the lever on which the arm lies."""
    word, number = arm
    if word == "seat":
        return scale.legs[number][0]
    return number if word == "out" else scale.levers[number].above


def with_sizes(scale, sizes):
    """Return the scale in which each arm that is a key of `sizes` has that size; checks nothing."""
    levers = []
    for number, lever in enumerate(scale.levers):
        out = sizes.get(("out", number), lever.out)
        inward = sizes.get(("inward", number), lever.inward)
        levers.append(Lever(out, lever.above, inward))
    legs = []
    for number, (lever, seat) in enumerate(scale.legs):
        legs.append((lever, sizes.get(("seat", number), seat)))
    return Scale(levers, legs, scale.places)


def with_arm(scale, arm, size):
    """Return the scale with this size of the arm."""
    changed = check_arm(scale, arm)
    return with_sizes(scale, {changed: check_size(size)})


def with_place(scale, leg, place):
    """Return the scale, of the same class, with the leg under another place."""
    check_leg(scale, leg)
    places = list(scale.places)
    places[leg] = check_place(place)
    for other in range(len(places)):
        if other != leg and places[other] == places[leg]:
            raise TwicePlace(other)
    return placed_at(scale, places)


def with_factor(plain, leg, size):
    """Return a Plain with another factor of the leg."""
    check_leg(plain, leg)
    if not is_factor(size):
        raise BadSize(size)
    factors = list(plain.factors)
    factors[leg] = size
    return Plain(plain.places, factors)
