"""Scales and loads as texts: point 1.12."""

from math import gcd

from wherelaid.errors import BadText
from wherelaid.loads import check_loads
from wherelaid.ratios import ratio_text
from wherelaid.scales import Lever, Plain, Scale

MOST_SIGNS = 10000
MOST_DIGITS = 200
# The words of each kind of row, each with what stands behind it.
FORMS = {
    "beam": (("lever", "whole"), ("out", "ratio")),
    "lever": (("lever", "whole"), ("above", "whole"), ("in", "ratio"), ("out", "ratio")),
    "leg": (("leg", "whole"), ("on", "whole"), ("seat", "ratio"), ("at", "place")),
    "plain": (("plain", "whole"), ("factor", "ratio"), ("at", "place")),
    "load": (("load", "whole"), ("weight", "ratio"), ("at", "place")),
}
# Which kinds of rows may stand behind a row of each kind; "" is before the first row.
BEHIND = {
    "": ("beam", "plain"),
    "beam": ("lever", "leg"),
    "lever": ("lever", "leg"),
    "leg": ("leg", "load"),
    "plain": ("plain", "load"),
    "load": ("load",),
}


def scale_text(scale, loads=()):
    """Return the scale and the loads as rows of text."""
    checked = check_loads(loads)
    rows = _plain_rows(scale) if isinstance(scale, Plain) else _scale_rows(scale)
    for number, (weight, place) in enumerate(checked):
        rows.append(f"load {number} weight {ratio_text(weight)} at {_place_text(place)}")
    return "\n".join(rows)


def _scale_rows(scale):
    rows = []
    for number, lever in enumerate(scale.levers):
        above = ""
        if lever.above is not None:
            above = f" above {lever.above} in {ratio_text(lever.inward)}"
        rows.append(f"lever {number}{above} out {ratio_text(lever.out)}")
    for number, (lever, seat) in enumerate(scale.legs):
        place = _place_text(scale.places[number])
        rows.append(f"leg {number} on {lever} seat {ratio_text(seat)} at {place}")
    return rows


def _plain_rows(scale):
    rows = []
    for number, factor in enumerate(scale.factors):
        place = _place_text(scale.places[number])
        rows.append(f"plain {number} factor {ratio_text(factor)} at {place}")
    return rows


def _place_text(place):
    return f"{ratio_text(place[0])},{ratio_text(place[1])}"


def read_scale(text):
    """Return the couple (scale, loads) of a text as scale_text writes it."""
    if not isinstance(text, str) or len(text) > MOST_SIGNS:
        raise BadText(0)
    rows = text.split("\n")
    found = {"beam": [], "lever": [], "leg": [], "plain": [], "load": []}
    last = ""
    for index, row in enumerate(rows):
        kind, values = _read_row(row)
        if kind not in BEHIND[last] or values[0] != _next_number(found, kind):
            raise BadText(index)
        found[kind].append(values[1:])
        last = kind
    if last in ("beam", "lever"):
        raise BadText(len(rows))
    return (_built_scale(found), check_loads(found["load"]))


def _next_number(found, kind):
    # The beam is the lever 0, though its row has a form of its own.
    before = len(found["beam"]) if kind == "lever" else 0
    return before + len(found[kind])


def _built_scale(found):
    plains = found["plain"]
    if plains:
        return Plain([values[1] for values in plains], [values[0] for values in plains])
    levers = [Lever(values[0]) for values in found["beam"]]
    for above, inward, out in found["lever"]:
        levers.append(Lever(out, above, inward))
    legs = found["leg"]
    return Scale(levers, [values[:2] for values in legs], [values[2] for values in legs])


def _read_row(row):
    """Return the kind of the row and its values, the kind "none" if it has none of the forms."""
    words = row.split(" ")
    for kind, form in FORMS.items():
        values = _values_of(words, form)
        if values is not None:
            return (kind, values)
    return ("none", ())


def _values_of(words, form):
    """Return the values of a row with these words, None if it has not this form."""
    if words[::2] != [word for word, _ in form] or len(words) != 2 * len(form):
        return None
    values = []
    for text, (_, shape) in zip(words[1::2], form):
        read = READERS[shape]
        value = read(text)
        if value is None:
            return None
        values.append(value)
    return values


def _read_whole(text):
    """Return the whole number that the text writes, None if it writes none."""
    # Signs beyond ASCII may be digits, too, but none that ratio_text writes.
    if not text.isascii() or not text.isdigit() or len(text) > MOST_DIGITS:
        return None
    return None if text != "0" and text.startswith("0") else int(text)


def _read_ratio(text):
    """Return the ratio that the text writes, None if it writes none."""
    sign = -1 if text.startswith("-") else 1
    parts = [_read_whole(part) for part in text.removeprefix("-").split("/")]
    if None in parts or len(parts) > 2 or (sign < 0 and parts[0] == 0):
        return None
    if len(parts) == 1:
        return (sign * parts[0], 1)
    # A bottom of 1 is not written.
    if parts[1] < 2 or gcd(parts[0], parts[1]) != 1:
        return None
    return (sign * parts[0], parts[1])


def _read_place(text):
    """Return the couple of ratios that the text writes, None if it writes none."""
    parts = [_read_ratio(part) for part in text.split(",")]
    return None if None in parts or len(parts) != 2 else tuple(parts)


READERS = {"whole": _read_whole, "ratio": _read_ratio, "place": _read_place}
