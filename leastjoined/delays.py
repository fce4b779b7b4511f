"""How long two readers of a code stay apart."""

from leastjoined.codes import check_counts_of
from leastjoined.errors import BadCount, TooMany
from leastjoined.ratios import Ratio
from leastjoined.readers import check_node, led, steps_of
from leastjoined.setting import BITS, fewest_steps, pair_of, pairs_behind

MOST_SIGNS_DRAWN = 8


def most_steps(behind, goal):
    """A dict to the most steps that there can be to a goal, without those from where there is no bound.

    behind is a dict to lists of what one step leads to.
    """
    most = {goal: 0}
    while True:
        found = {
            at: 1 + max([most[after] for after in behind[at]])
            for at in behind if at not in most and all([after in most for after in behind[at]])
        }
        if not found:
            return most
        most.update(found)


def check_drawn(code, counts):
    """Raises what is due unless these are counts above 0 of the signs of a code with at most eight signs."""
    check_counts_of(code, counts)
    for index, count in enumerate(counts):
        if count == 0:
            raise BadCount(index)
    if code.size > MOST_SIGNS_DRAWN:
        raise TooMany("signs", code.size, MOST_SIGNS_DRAWN)


def ends_behind(code, steps):
    """A dict from the nodes, but for the root, to lists of the nodes behind the words of all signs."""
    return {node: [led(steps, node, word) for word in code.words] for node in steps if node != ""}


def solved(rows):
    """The Ratios x for which each row, but for its last entry, times x, summed up, is its last entry.

    No entry that is divided by becomes 0 if each row is above 0 in its own place, not above 0 in the other ones,
    its sum is not below 0, and from each row one with a sum above 0 can be reached.
    """
    left = [[Ratio(entry) for entry in row] for row in rows]
    for at in range(len(left)):
        own = [entry.divided(left[at][at]) for entry in left[at]]
        left = [
            own if index == at else [entry - row[at] * part for entry, part in zip(row, own)]
            for index, row in enumerate(left)
        ]
    return [row[-1] for row in left]


def never_lost(ends):
    """A dict of True from the nodes, with the root, from where the root can be reached whatever comes first."""
    sure = fewest_steps(ends, "")
    while True:
        left = {node: True for node in sure if node == "" or all([end in sure for end in ends[node]])}
        if len(left) == len(sure):
            return left
        sure = left


def mean_prices(code, steps, counts, prices):
    """A dict from nodes to the mean price of signs until two readers are one, without those where they may never be.

    One reader stands at the root, the other one at the node; signs are drawn by counts, each has its price.
    """
    ends = ends_behind(code, steps)
    sure = never_lost(ends)
    nodes = [node for node in ends if node in sure]
    price = sum([count * one for count, one in zip(counts, prices)])
    rows = []
    for at, node in enumerate(nodes):
        row = [-sum([count for count, end in zip(counts, ends[node]) if end == other]) for other in nodes]
        row[at] = row[at] + sum(counts)
        rows.append([*row, price])
    means = {"": Ratio(0)}
    for node, mean in zip(nodes, solved(rows)):
        means[node] = mean
    return means


class Delays:
    """How many bits two readers of a code, which stand at two nodes, read before they are one."""

    def __init__(self, code):
        self.code = code
        self._steps = steps_of(code)
        self._behind = pairs_behind(self._steps)
        self._fewest = fewest_steps(self._behind, None)
        self._most = most_steps(self._behind, None)

    def _pair(self, one, other):
        """The pair of two nodes in order, None if they are equal; raises BadNode if one is none."""
        check_node(self.code, one)
        check_node(self.code, other)
        return pair_of(one, other)

    def fewest(self, one, other):
        """The fewest bits behind which two readers are one, None if there are none."""
        return self._fewest.get(self._pair(one, other))

    def greatest(self, one, other):
        """The most bits before two readers are one, None if there is no bound."""
        return self._most.get(self._pair(one, other))

    def apart_by(self, one, other):
        """Strings (front, ring) that keep two readers apart as long as can be."""
        pair = self._pair(one, other)
        if pair in self._most:
            return (self._front(pair), "")
        return self._ring(one, other)

    def _front(self, pair):
        """The bits that keep a pair apart as long as can be."""
        front = ""
        at = pair
        while self._most[at] > 1:
            _, bit, at = max([(self._most[after], bit, after) for bit, after in zip(BITS, self._behind[at])])
            front = front + bit
        return front

    def _ring(self, one, other):
        """The bits that lead two readers round, and those ahead of them."""
        bits = ""
        places = {}
        # Not by pairs in order: each reader comes back to its own node.
        at = (one, other)
        while at not in places:
            places[at] = len(bits)
            far = [bit for bit, after in zip(BITS, self._behind[pair_of(at[0], at[1])]) if after not in self._most]
            bits = bits + far[0]
            at = (self._steps[at[0]][far[0]], self._steps[at[1]][far[0]])
        return (bits[:places[at]], bits[places[at]:])

    def mean(self, one, other, counts):
        """The mean number of bits until two readers are one, None if they may never be."""
        pair = self._pair(one, other)
        check_drawn(self.code, counts)
        if pair is None:
            return Ratio(0)
        means = mean_prices(self.code, self._steps, counts, self.code.lengths)
        total = Ratio(0)
        weight = 0
        for word, count in zip(self.code.words, counts):
            if word.startswith(one):
                end = led(self._steps, other, word[len(one):])
                if end not in means:
                    return None
                total = total + (means[end] + len(word) - len(one)) * count
                weight = weight + count
        return total.divided(weight)


def delays(code):
    """The Delays of a code."""
    return Delays(code)
