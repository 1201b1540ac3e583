"""Tests: what a weight 1 at a place showed, and factors that fit it (point 6.1)."""

from wherelaid.errors import BadTests
from wherelaid.hulls import first_beyond
from wherelaid.places import check_places, is_place
from wherelaid.ratios import compare, is_factor
from wherelaid.sequences import is_couple, is_sequence
from wherelaid.skins import skin_at

MOST_TESTS = 8


def check_tests(places, tests):
    """Return 0 to 8 tests as a tuple of couples (place, showing), or raise BadTests."""
    return tests_within(check_places(places), tests)


def tests_within(places, tests):
    """Return what check_tests returns, for places that are checked already."""
    if not is_sequence(tests, 0, MOST_TESTS):
        raise BadTests(0, "many")
    for index, test in enumerate(tests):
        if not is_couple(test):
            raise BadTests(index, "test")
        if not is_place(test[0]):
            raise BadTests(index, "place")
        if not is_factor(test[1]):
            raise BadTests(index, "showing")
        if first_beyond(places, test[0]) is not None:
            raise BadTests(index, "outside")
    return tuple([(tuple(place), showing) for place, showing in tests])


def tests_fault(scale, tests):
    """Return None if the factors fit all tests, else (index, "below" or "above") of the first misfit."""
    for index, (place, showing) in enumerate(tests_within(scale.places, tests)):
        if compare(showing, skin_at(scale, place, False)) < 0:
            return (index, "below")
        if compare(showing, skin_at(scale, place, True)) > 0:
            return (index, "above")
    return None
