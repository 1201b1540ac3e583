"""Loads and poises laid one after another against an unknown tare: point 9.10."""

from wherelaid.ratios import is_arm_size, is_whole
from wherelaid.readings import NoCase, check_rows, clash_of, tightest
from wherelaid.sequences import is_sequence
from wherelaid.spans import check_load, span_between

SIGNS = ("thing", "tare", "even")


def _is_tare_row(many, thing):
    if not is_sequence(thing, 3, 3):
        return False
    word, what, sign = thing
    if word == "load":
        return is_whole(what, 0, many - 1) and sign in SIGNS
    return word == "poise" and is_arm_size(what) and sign in SIGNS


def tare_span(many, rows, load):
    """Return the Span of a load's weight, or NoCase."""
    checked = check_rows(many, rows, _is_tare_row)
    check_load(many, load)
    low, high = _tare_bounds(checked)
    clashes = [clash_of(low, high)]
    for own in range(many):
        clashes.append(_clashing_signs(checked, own))
    found = [numbers for numbers in clashes if numbers is not None]
    if found:
        return NoCase(found[0])
    # A load that the tare outweighs, or that outweighs the tare, keeps one bound alone.
    signs = [sign for word, what, sign in checked if word == "load" and what == load]
    if not signs:
        return span_between(None, None)
    return span_between(None if signs[0] == "tare" else low, None if signs[0] == "thing" else high)


def _tare_bounds(rows):
    """Return (low, high): the bounds that the poises set to the weight that balances the tare."""
    lows = []
    highs = []
    for number, (word, size, sign) in enumerate(rows):
        if word == "poise":
            bound = (size, sign == "even", (number,))
            if sign != "thing":
                lows.append(bound)
            if sign != "tare":
                highs.append(bound)
    return (tightest(lows, 1), tightest(highs, -1))


def _clashing_signs(rows, load):
    """Return the numbers of the first two rows of the load with unlike signs, or None."""
    own = [number for number, row in enumerate(rows) if row[0] == "load" and row[1] == load]
    for number in own:
        if rows[number][2] != rows[own[0]][2]:
            return (own[0], number)
    return None
