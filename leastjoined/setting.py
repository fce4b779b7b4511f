"""Strings of bits that set readers right, or pairs of nodes that show that there are none."""

from leastjoined.codes import Code
from leastjoined.errors import TooMany
from leastjoined.kinds import frozen
from leastjoined.readers import check_bits, steps_of

MOST_SIGNS_SET = 13
BITS = ("0", "1")


class Sets:
    """A string with as few bits as any that sets the readers of a code right."""

    def __init__(self, code, bits):
        self.code = frozen(code)
        self.bits = frozen(bits)


class Never:
    """Pairs of unlike nodes of a code, from each of which each bit leads to one of them."""

    def __init__(self, code, pairs):
        self.code = frozen(code)
        self.pairs = frozen(pairs)


def is_setting(code, bits):
    """Whether readers at all nodes stand at one node behind these bits."""
    check_bits(bits)
    steps = steps_of(code)
    nodes = list(steps)
    for bit in bits:
        # From here on they stay one.
        if len(nodes) == 1:
            return True
        nodes = list({steps[node][bit]: True for node in nodes})
    return len(nodes) == 1


def pair_of(one, other):
    """The pair of two nodes in order, None if they are equal."""
    if one == other:
        return None
    return (min(one, other), max(one, other))


def pairs_behind(steps):
    """A dict from the pairs of unlike nodes, ascending, to the pairs to which the bits 0 and 1 lead."""
    behind = {}
    for one in sorted(steps):
        for other in sorted(steps):
            if one < other:
                behind[(one, other)] = [pair_of(steps[one][bit], steps[other][bit]) for bit in BITS]
    return behind


def fewest_steps(behind, goal):
    """A dict to the fewest steps to a goal, without those from where no steps lead there.

    behind is a dict to lists of what one step leads to.
    """
    fewest = {goal: 0}
    many = 0
    while True:
        found = [at for at in behind if at not in fewest and any([after in fewest for after in behind[at]])]
        if not found:
            return fewest
        many = many + 1
        for at in found:
            fewest[at] = many


def shortest_setting(steps):
    """A string with as few bits as any that sets right; there is one."""
    groups = [tuple(steps)]
    bits_to = {groups[0]: ""}
    at = 0
    # Groups with fewer bits stand first, so that the first one of one node has the fewest.
    while len(groups[at]) > 1:
        for bit in BITS:
            after = tuple(sorted({steps[node][bit] for node in groups[at]}))
            if after not in bits_to:
                bits_to[after] = bits_to[groups[at]] + bit
                groups.append(after)
        at = at + 1
    return bits_to[groups[at]]


def setting(code):
    """Sets or Never: whether some string sets the readers of a code right."""
    steps = steps_of(code)
    behind = pairs_behind(steps)
    fewest = fewest_steps(behind, None)
    # If each two readers can become one, two by two all of them can.
    never = [pair for pair in behind if pair not in fewest]
    if never:
        return Never(code, never)
    if code.size > MOST_SIGNS_SET:
        raise TooMany("signs", code.size, MOST_SIGNS_SET)
    return Sets(code, shortest_setting(steps))


def is_pair(steps, value):
    """Whether a value is a pair of unlike nodes in order."""
    if not isinstance(value, tuple) or len(value) != 2:
        return False
    one, other = value
    if not isinstance(one, str) or not isinstance(other, str):
        return False
    return one in steps and other in steps and one < other


def is_never(never):
    """Whether the pairs of a Never show that no string sets the readers of its code right."""
    if not isinstance(never.code, Code) or not isinstance(never.pairs, tuple) or len(never.pairs) == 0:
        return False
    steps = steps_of(never.code)
    if not all([is_pair(steps, pair) for pair in never.pairs]):
        return False
    behind = pairs_behind(steps)
    told = {pair: True for pair in never.pairs}
    return all([after in told for pair in never.pairs for after in behind[pair]])
