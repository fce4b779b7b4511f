"""Tables for reading several bits at once."""

from leastjoined.codes import LONGEST_WORD, check_counts_of
from leastjoined.errors import BadBits, BadLooks, BadNode, BadSign, BadTable, NoSigns
from leastjoined.kinds import is_int
from leastjoined.ratios import Ratio
from leastjoined.readers import check_bits, is_sign, nodes_of, signs_by_word


def longest_way(code, node):
    """The number of bits of the longest way from a node to the end of a word."""
    return max([len(word) for word in code.words if word.startswith(node)]) - len(node)


def led_to(nodes, node, width):
    """The nodes to which rows of a table of this width at a node lead."""
    return [other for other in nodes if len(other) == len(node) + width and other.startswith(node)]


def check_widths(code, nodes, widths):
    """Raises BadTable unless there are tables with fit widths at the root and at the nodes to which rows lead."""
    for node in widths:
        if node not in nodes:
            raise BadTable(node)
        width = widths[node]
        if not is_int(width) or width < 1 or width > longest_way(code, node):
            raise BadTable(node)
    # The root is asked for first, and the first one in the order of the nodes.
    wanted = {"": True}
    for node in widths:
        for other in led_to(nodes, node, widths[node]):
            wanted[other] = True
    for node in nodes:
        if node in wanted and node not in widths:
            raise BadTable(node)
    for node in nodes:
        if node in widths and node not in wanted:
            raise BadTable(node)


def looks_for(word, widths):
    """How many tables are asked for a word."""
    looks = 0
    size = 0
    while size < len(word):
        size = size + widths[word[:size]]
        looks = looks + 1
    return looks


class Tables:
    """Tables of these widths at the nodes of a code."""

    def __init__(self, code, widths):
        nodes = nodes_of(code)
        check_widths(code, nodes, widths)
        self.code = code
        self._widths = {node: widths[node] for node in nodes if node in widths}
        self._signs = signs_by_word(code)
        self._looks = [looks_for(word, self._widths) for word in code.words]
        self.rows = sum([1 << width for width in self._widths.values()])
        self.worst = max(self._looks)

    @property
    def widths(self):
        """A new dict from nodes, shorter ones first, then as strings, to the widths of their tables."""
        return {node: self._widths[node] for node in self._widths}

    def row(self, node, bits):
        """What a row tells: ("sign", sign, used), or ("table", node)."""
        if not isinstance(node, str) or node not in self._widths:
            raise BadNode(node)
        check_bits(bits)
        if len(bits) != self._widths[node]:
            raise BadBits(len(bits))
        for used in range(1, len(bits) + 1):
            word = node + bits[:used]
            if word in self._signs:
                return ("sign", self._signs[word], used)
        return ("table", node + bits)

    def looked(self, sign):
        """The look-ups of a sign."""
        if not is_sign(self.code, sign):
            raise BadSign(0)
        return self._looks[sign]

    def mean(self, counts):
        """The mean number of look-ups for signs that are drawn by counts, a Ratio."""
        check_counts_of(self.code, counts)
        if sum(counts) == 0:
            raise NoSigns()
        return Ratio(sum([count * looks for count, looks in zip(counts, self._looks)]), sum(counts))


def least_rows(ways, before):
    """For each node the pair (rows, width) with the fewest rows of a table there and all those below it.

    ways tells for each node its widths, with the nodes to which rows lead; before the pairs of nodes
    if there is one look-up less, and is empty if there is none.
    """
    told = {}
    for node in ways:
        told[node] = min([
            ((1 << width) + sum([before[other][0] for other in others]), width)
            for width, others in ways[node] if before or not others
        ])
    return told


def least_tables(code, looks):
    """Tables with as few rows as any in which no sign needs more than so many look-ups."""
    if not is_int(looks) or looks < 1 or looks > LONGEST_WORD:
        raise BadLooks(looks)
    nodes = nodes_of(code)
    ways = {}
    for node in nodes:
        ways[node] = [(width, led_to(nodes, node, width)) for width in range(1, longest_way(code, node) + 1)]
    # told[k]: the pairs of nodes if there are k look-ups; more than the bits of a word are never needed.
    told = [{}]
    for _ in range(min(looks, code.longest)):
        told.append(least_rows(ways, told[-1]))
    widths = {}
    left = [("", len(told) - 1)]
    while left:
        node, more = left.pop()
        _, width = told[more][node]
        widths[node] = width
        left.extend([(other, more - 1) for other in led_to(nodes, node, width)])
    return Tables(code, widths)
