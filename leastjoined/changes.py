"""How far a code that is least is from its borders."""

from leastjoined.codes import check_counts_of, cost
from leastjoined.errors import NotLeast, OtherSize
from leastjoined.kinds import frozen, is_int
from leastjoined.least import is_least_for, is_row, packed, sign_groups, weight_of


class Near:
    """How few further signs make a code not least any more, the bunches of a row that fails, and a sign to raise."""

    def __init__(self, many, light, heavy, sign):
        self.many = frozen(many)
        self.light = frozen(light)
        self.heavy = frozen(heavy)
        self.sign = frozen(sign)


def check_least(code, counts):
    """Raises the errors of a code and counts, then NotLeast unless the code is least."""
    if not is_least_for(code, counts):
        raise NotLeast()


def near_borders(code, counts):
    """Triples (slack, light, heavy) of borders, for each single sign one with the least slack of its borders.

    A row that is no border has the slacks of two rows together, so that none has less than these.
    """
    found = []
    # With turned weights the heaviest bunch comes first.
    heaviest = packed(sign_groups(code, [-count for count in counts]))
    for sign, length in enumerate(code.lengths):
        if length < code.longest:
            weight, bunch = heaviest[length + 1][0]
            found.append((counts[sign] + weight, (sign,), bunch))
        lightest = packed(sign_groups(code, counts, sign))[length - 1]
        if lightest:
            weight, bunch = lightest[0]
            found.append((weight - counts[sign], bunch, (sign,)))
    return found


def nearest_row(code, counts):
    """A row (slack, light, heavy) with the least slack, None if there is no row."""
    return min(near_borders(code, counts), default=None)


def slack(code, counts):
    """The least slack of all rows of a code that is least, None if there is no row."""
    check_least(code, counts)
    row = nearest_row(code, counts)
    if row is None:
        return None
    return row[0]


def is_only(code, counts):
    """Whether no code with other lengths costs as little as a code that is least."""
    least = slack(code, counts)
    return least is None or least > 0


def nearest(code, counts):
    """The Near of a code that is least."""
    check_least(code, counts)
    row = nearest_row(code, counts)
    if row is None:
        return Near(None, None, None, None)
    return Near(row[0] + 1, row[1], row[2], row[2][0])


def sorted_signs(value):
    """A list of signs as a tuple, ascending; None for any other value."""
    if not isinstance(value, (list, tuple)) or not all([is_int(sign) for sign in value]):
        return None
    return tuple(sorted(value))


def is_near(code, counts, many, light, heavy):
    """Whether light and heavy tell a row of a code that is least with the slack many - 1, and no row has less."""
    least = slack(code, counts)
    lights = sorted_signs(light)
    heavies = sorted_signs(heavy)
    if not is_int(many) or not is_row(code, lights, heavies):
        return False
    return many - 1 == least and weight_of(counts, lights) - weight_of(counts, heavies) == least


def taken(code, counts):
    """How few signs taken away make a code that is least so no more, None if none do."""
    check_least(code, counts)
    # Where heavy weighs nothing, light can not be made to weigh less. Of the two rows that make a row whose heavy
    # weighs something, one has such a heavy, too: so borders are enough here as well.
    slacks = [row[0] for row in near_borders(code, counts) if weight_of(counts, row[2]) > 0]
    if not slacks:
        return None
    return min(slacks) + 1


def until(code, counts, other):
    """With how few further signs, all of them one sign, another code costs at most as much: (many, sign)."""
    check_counts_of(code, counts)
    if len(counts) != other.size:
        raise OtherSize(len(counts), other.size)
    more = cost(other, counts) - cost(code, counts)
    if more <= 0:
        return 0, None
    gains = [length - other.lengths[sign] for sign, length in enumerate(code.lengths)]
    return min([(-(-more // gain), sign) for sign, gain in enumerate(gains) if gain > 0])
