"""Bits: readers that stand at the nodes of a code."""

from leastjoined.errors import BadBits, BadNode, BadSign, TooMany
from leastjoined.kinds import frozen, is_int

MOST_SPELLED = 10000
MOST_READ = 100000


class Reading:
    """What a reader read: signs, how many bits were read with each of them, and the node behind all bits."""

    def __init__(self, signs, ends, node):
        self.signs = frozen(signs)
        self.ends = frozen(ends)
        self.node = frozen(node)


def nodes_of(code):
    """The nodes of a code, shorter ones first, then as strings."""
    return [node for _, node in sorted({(size, word[:size]) for word in code.words for size in range(len(word))})]


def steps_of(code):
    """A dict from the nodes of a code, in this order, to dicts from bits to the nodes to which they lead."""
    nodes = nodes_of(code)
    steps = {}
    for node in nodes:
        # What is no node is a word, and leads to the root.
        steps[node] = {bit: node + bit if node + bit in nodes else "" for bit in ("0", "1")}
    return steps


def led(steps, node, bits):
    """The node to which bits lead from a node."""
    at = node
    for bit in bits:
        at = steps[at][bit]
    return at


def check_node(code, node):
    """Raises BadNode unless a value is a node of a code."""
    if not isinstance(node, str) or not any([word != node and word.startswith(node) for word in code.words]):
        raise BadNode(node)


def check_bits(bits):
    """Raises BadBits unless a value is a string of bits."""
    if not isinstance(bits, str):
        raise BadBits(0)
    rest = bits.lstrip("01")
    if rest:
        raise BadBits(len(bits) - len(rest))


def follow(code, node, bits):
    """The node at which a reader stands that stood at this node, behind these bits."""
    check_node(code, node)
    check_bits(bits)
    return led(steps_of(code), node, bits)


def is_sign(code, value):
    """Whether a value is a sign of a code."""
    return is_int(value) and 0 <= value < code.size


def spelled(code, signs):
    """The words of signs, one behind the other."""
    for index, sign in enumerate(signs):
        if not is_sign(code, sign):
            raise BadSign(index)
    if len(signs) > MOST_SPELLED:
        raise TooMany("signs", len(signs), MOST_SPELLED)
    return "".join([code.words[sign] for sign in signs])


def signs_by_word(code):
    """A dict from the words of a code to their signs."""
    return {word: sign for sign, word in enumerate(code.words)}


def read(code, bits, node=""):
    """The Reading of a reader that stands at this node ahead of these bits."""
    check_node(code, node)
    check_bits(bits)
    if len(bits) > MOST_READ:
        raise TooMany("bits", len(bits), MOST_READ)
    by_word = signs_by_word(code)
    signs = []
    ends = []
    at = node
    for index, bit in enumerate(bits):
        at = at + bit
        if at in by_word:
            signs.append(by_word[at])
            ends.append(index + 1)
            at = ""
    return Reading(signs, ends, at)
