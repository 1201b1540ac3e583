"""Changes of the levers that keep every factor: point 1.9."""

from wherelaid.arms import arm_size, check_lever, on_lever, with_sizes
from wherelaid.errors import BadScale, NoLever
from wherelaid.places import check_leg
from wherelaid.ratios import check_size, over, times
from wherelaid.scales import MOST_LEVERS, Lever, Scale


def lengthened(scale, lever, size):
    """Return the scale with all arms that lie on the lever multiplied by the size."""
    arms = on_lever(scale, lever)
    check_size(size)
    sizes = {}
    for arm in arms:
        sizes[arm] = check_size(times(arm_size(scale, arm), size))
    return with_sizes(scale, sizes)


def cut_lever(scale, lever):
    """Return the scale without a lever other than the beam."""
    if check_lever(scale, lever) == 0:
        raise NoLever(lever)
    cut = scale.levers[lever]
    gear = over(cut.inward, cut.out)
    levers = []
    for number, old in enumerate(scale.levers):
        if old.above is None:
            levers.append(old)
        elif number != lever:
            above, inward = _led_over(old.above, old.inward, lever, cut.above, gear)
            levers.append(Lever(old.out, above, inward))
    legs = [_led_over(under, seat, lever, cut.above, gear) for under, seat in scale.legs]
    return Scale(levers, legs, scale.places)


def _led_over(under, size, lever, above, gear):
    """Return the couple (lever, size) of an arm on the lever `under` when `lever` is cut."""
    if under == lever:
        return (above, check_size(times(size, gear)))
    return (under - 1 if under > lever else under, size)


def set_between(scale, leg, out, inward):
    """Return the scale with a new lever between the leg and its lever."""
    check_leg(scale, leg)
    check_size(out)
    check_size(inward)
    added = len(scale.levers)
    if added == MOST_LEVERS:
        raise BadScale(0, "levers")
    lever, seat = scale.legs[leg]
    legs = list(scale.legs)
    legs[leg] = (added, check_size(over(times(seat, out), inward)))
    return Scale([*scale.levers, Lever(out, lever, inward)], legs, scale.places)
