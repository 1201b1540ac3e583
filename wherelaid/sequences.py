"""What counts as a sequence: point 0.6."""


def is_sequence(thing, low=0, high=None):
    """Whether the thing is a list or a tuple with `low` to `high` entries (None: no bound above)."""
    if not isinstance(thing, (list, tuple)):
        return False
    return len(thing) >= low and (high is None or len(thing) <= high)


def is_couple(thing):
    """Whether the thing is a sequence of two entries."""
    return is_sequence(thing, 2, 2)
