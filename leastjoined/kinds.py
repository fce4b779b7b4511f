"""What the modules of the package share: kinds of values, and copies of them."""


def is_int(value):
    """Whether a value is an integer; True and False are none."""
    return isinstance(value, int) and not isinstance(value, bool)


def kept(value):
    """A copy of any value: its lists, tuples and dicts are new at every depth, objects stay as they are."""
    if isinstance(value, list):
        return [kept(part) for part in value]
    if isinstance(value, tuple):
        return tuple([kept(part) for part in value])
    if isinstance(value, dict):
        return {key: kept(value[key]) for key in value}
    return value
