"""What the modules of the package share: kinds of values, and copies of them."""


def is_int(value):
    """Whether a value is an integer; True and False are none."""
    return isinstance(value, int) and not isinstance(value, bool)


def kept(value):
    """A copy of any value: its lists, tuples and dicts are new at every depth, objects stay as they are."""
    if isinstance(value, list):
        return [kept(part) for part in value]
    if isinstance(value, tuple):
        return tuple([kept(part) for part in value])
    if isinstance(value, dict):
        return {key: kept(value[key]) for key in value}
    return value


def frozen(value):
    """A copy of any value with lists as tuples at every depth; objects stay as they are."""
    if isinstance(value, (list, tuple)):
        return tuple([frozen(part) for part in value])
    if isinstance(value, dict):
        return {key: frozen(value[key]) for key in value}
    return value


def is_same(value, wanted):
    """Whether a value is just what is wanted: tuples, integers and None at any depth."""
    if isinstance(wanted, tuple):
        if not isinstance(value, tuple) or len(value) != len(wanted):
            return False
        return all([is_same(part, wanted[at]) for at, part in enumerate(value)])
    if wanted is None:
        return value is None
    # Not by == alone, which takes True for 1.
    return is_int(value) and value == wanted
