"""When a code is least: with its levels, or with a better code."""

from leastjoined.codes import Code, all_lengths, check_counts, check_counts_of, fits, joint_level
from leastjoined.errors import TooMany
from leastjoined.joining import least_cost
from leastjoined.kinds import frozen, is_int, is_same

MOST_SIGNS_LISTED = 7


class Least:
    """A paper that a code is least for counts: its levels."""

    def __init__(self, code, counts, levels):
        self.code = frozen(code)
        self.counts = frozen(counts)
        self.levels = frozen(levels)


class Better:
    """A paper that a code is not least for counts: a light bunch, a heavy one, and the code that costs less."""

    def __init__(self, code, counts, light, heavy, other):
        self.code = frozen(code)
        self.counts = frozen(counts)
        self.light = frozen(light)
        self.heavy = frozen(heavy)
        self.other = frozen(other)


def paired(nodes):
    """Nodes (weight, parts) taken two by two, each two making one; an odd one at the end is left out."""
    return [
        (nodes[at][0] + nodes[at + 1][0], tuple(sorted(nodes[at][1] + nodes[at + 1][1])))
        for at in range(0, len(nodes) - 1, 2)
    ]


def packed(groups):
    """For each k the nodes (weight, parts) of the width 1 / 2 ** k, ascending.

    They are those of groups[k], and those of k + 1 taken two by two. So the first one at k weighs
    no more than any other parts of all groups with this width altogether.
    """
    rows = []
    nodes = []
    for group in reversed(groups):
        nodes = sorted([*group, *paired(nodes)])
        rows.append(nodes)
    return list(reversed(rows))


def signs_by_length(code, left_out=None):
    """For each k from 0 on the signs with words of k bits, but for a sign that is left out."""
    groups = [[] for _ in range(code.longest + 1)]
    for sign, length in enumerate(code.lengths):
        if sign != left_out:
            groups[length].append(sign)
    return groups


def sign_groups(code, weights, left_out=None):
    """The same signs as nodes (weight, parts)."""
    return [[(weights[sign], (sign,)) for sign in group] for group in signs_by_length(code, left_out)]


def levels(code, counts):
    """For each k from 0 on the nodes (weight, bunch) of a code, ascending."""
    check_counts_of(code, counts)
    return tuple([tuple(nodes) for nodes in packed(sign_groups(code, counts))])


def lighter_above(rows):
    """The first k with a node that weighs less than some node of the next entry, None if there is none."""
    for level in range(len(rows) - 1):
        if rows[level][0][0] < rows[level + 1][-1][0]:
            return level
    return None


def beyond(code, light, heavy):
    """The canonical code with a bit more for the signs of light, one less for those of heavy."""
    lengths = list(code.lengths)
    for sign in light:
        lengths[sign] = lengths[sign] + 1
    for sign in heavy:
        lengths[sign] = lengths[sign] - 1
    return Code(lengths)


def judge(code, counts):
    """Least or Better: whether a code is least for counts, and why."""
    rows = levels(code, counts)
    level = lighter_above(rows)
    if level is None:
        return Least(code, counts, rows)
    # They have no sign in common: a node weighs no less than the two that it is made of.
    light = rows[level][0][1]
    heavy = rows[level + 1][-1][1]
    return Better(code, counts, light, heavy, beyond(code, light, heavy))


def is_least_for(code, counts):
    """Whether a code is least for counts. Errors as levels."""
    return lighter_above(levels(code, counts)) is None


def is_least(least):
    """Whether the levels of a Least are as told and show that its code is least."""
    if not fits(least.code, least.counts):
        return False
    rows = levels(least.code, least.counts)
    return is_same(least.levels, rows) and lighter_above(rows) is None


def is_ascending(value, size):
    """Whether a value is a tuple of signs below size, ascending, each one once."""
    if not isinstance(value, tuple):
        return False
    ahead = -1
    for sign in value:
        if not is_int(sign) or sign <= ahead or sign >= size:
            return False
        ahead = sign
    return True


def level_of(code, value):
    """The level at which a value is a bunch of the code, None if it is none."""
    if not is_ascending(value, code.size):
        return None
    return joint_level([code.lengths[sign] for sign in value])


def is_row(code, light, heavy):
    """Whether two values are bunches without a common sign, the second one a level below the first one."""
    above = level_of(code, light)
    below = level_of(code, heavy)
    if above is None or below is None or below != above + 1:
        return False
    return not any([sign in heavy for sign in light])


def weight_of(counts, bunch):
    """The sum of the counts of a bunch."""
    return sum([counts[sign] for sign in bunch])


def is_better(better):
    """Whether light, heavy and other of a Better show that its code is not least."""
    code, counts, light, heavy = better.code, better.counts, better.light, better.heavy
    if not fits(code, counts) or not is_row(code, light, heavy):
        return False
    if weight_of(counts, light) >= weight_of(counts, heavy):
        return False
    return beyond(code, light, heavy) == better.other


def least_codes(counts):
    """All canonical codes that are least for counts of at most seven signs, ascending by their lengths."""
    check_counts(counts)
    if len(counts) > MOST_SIGNS_LISTED:
        raise TooMany("signs", len(counts), MOST_SIGNS_LISTED)
    price = least_cost(counts)
    return tuple([
        Code(lengths) for lengths in all_lengths(len(counts))
        if sum([count * lengths[sign] for sign, count in enumerate(counts)]) == price
    ])
