"""Coded texts that are told by rules, and readers along them."""

from itertools import accumulate

from leastjoined.errors import BadPlace, OtherSize, TooMany
from leastjoined.kinds import is_int
from leastjoined.readers import check_node, led, steps_of

MOST_BITS = 2000


class Path:
    """What becomes of a second reader where one part comes again and again.

    nodes are those at which it stands where the first part begins, the second one and so on; the right
    reader stands at the root there. right is the number of bits behind which both stand at the root; or it
    is None, and the last one of the parts leads to the node with the index back.
    """

    def __init__(self, nodes, right, back):
        self.nodes = tuple(nodes)
        self.right = right
        self.back = back

    def behind(self, count):
        """For so many parts the pair of right, None if there is none so far, and of the node behind them."""
        if count < len(self.nodes):
            return (None, self.nodes[count])
        if self.right is not None:
            return (self.right, "")
        return (None, self.nodes[self.back + (count - self.back) % (len(self.nodes) - self.back)])


def path_from(node, once, size):
    """The Path from a node; once is a dict from nodes to what behind(1) is to tell, size the bits of a part."""
    nodes = [node]
    places = {node: 0}
    while True:
        right, end = once[nodes[-1]]
        if right is not None:
            return Path(nodes, (len(nodes) - 1) * size + right, None)
        if end in places:
            return Path(nodes, None, places[end])
        places[end] = len(nodes)
        nodes.append(end)


def along(pairs, paths, sizes, node):
    """The pair of right and the node, as behind tells it, for pairs (part, count) one behind the other."""
    place = 0
    at = node
    for part, count in pairs:
        right, at = paths[part][at].behind(count)
        if right is not None:
            return (place + right, "")
        place = place + count * sizes[part]
    return (None, at)


def over_word(word, steps, node):
    """The pair of right and the node, as behind tells it, for a word."""
    end = led(steps, node, word)
    if end == "":
        return (len(word), "")
    return (None, end)


def paths_of(code, steps, rules, sizes):
    """For each sign and each name the dict from the nodes, but for the root, to Paths."""
    nodes = [node for node in steps if node != ""]
    paths = {}
    for sign, word in enumerate(code.words):
        once = {node: over_word(word, steps, node) for node in nodes}
        paths[sign] = {node: path_from(node, once, len(word)) for node in nodes}
    for name in rules:
        once = {node: along(rules[name], paths, sizes, node) for node in nodes}
        paths[name] = {node: path_from(node, once, sizes[name]) for node in nodes}
    return paths


class Sizes:
    """How great signs and names are, and, for each name, where the pairs of its rule begin and where they end."""

    def __init__(self, sizes, rules):
        self.of = {sign: size for sign, size in enumerate(sizes)}
        self.bounds = {}
        for name in rules:
            ends = list(accumulate([count * self.of[part] for part, count in rules[name]]))
            self.of[name] = ends[-1]
            self.bounds[name] = [0, *ends]


class Coded:
    """The words of all signs of a text, one behind the other."""

    def __init__(self, code, text):
        self.code = code
        self.text = text
        self._steps = steps_of(code)
        self._rules = text.filled_rules()
        self._signs = Sizes([1] * code.size, self._rules)
        self._bits = Sizes(code.lengths, self._rules)
        self._paths = paths_of(code, self._steps, self._rules, self._bits.of)
        self.size = self._bits.of.get(text.root, 0)

    def _check_bit(self, place):
        """Raises BadPlace unless there is a bit with this place."""
        if not is_int(place) or place < 0 or place >= self.size:
            raise BadPlace(place)

    def _found(self, place):
        """For a bit: the index of its sign, the sign, the number of the bit in its word, and the pairs behind it."""
        one = self.text.root
        index = 0
        left = place
        rests = []
        while isinstance(one, str):
            bounds = self._bits.bounds[one]
            at = len([bound for bound in bounds if bound <= left]) - 1
            index = index + self._signs.bounds[one][at]
            rests.append(self._rules[one][at + 1:])
            one, count = self._rules[one][at]
            whole, left = divmod(left - bounds[at], self._bits.of[one])
            index = index + whole * self._signs.of[one]
            if count > whole + 1:
                rests.append(((one, count - whole - 1),))
        return (index, one, left, [pair for rest in reversed(rests) for pair in rest])

    def bit(self, place):
        """The bit with this place."""
        self._check_bit(place)
        _, sign, number, _ = self._found(place)
        return self.code.words[sign][number]

    def part(self, first, size):
        """The string of so many bits from this place on."""
        if not is_int(size) or size < 0 or size > MOST_BITS:
            raise TooMany("bits", size, MOST_BITS)
        if not is_int(first) or first < 0 or first > self.size - size:
            raise BadPlace(first)
        if size == 0:
            return ""
        index, _, number, _ = self._found(first)
        # Each sign has a bit at least, so that there are no more signs than bits.
        signs = self.text.part(index, min(size, self.text.size - index))
        return "".join([self.code.words[sign] for sign in signs])[number:number + size]

    def begin(self, index):
        """The place of the first bit of the sign with this index."""
        if not is_int(index) or index < 0 or index >= self.text.size:
            raise BadPlace(index)
        return sum([count * length for count, length in zip(self.text.ahead(index), self.code.lengths)])

    def sign_at(self, place):
        """The index of the sign of a bit, and the number of the bit in its word."""
        self._check_bit(place)
        index, _, number, _ = self._found(place)
        return (index, number)

    def _right(self, place, node):
        """right_from, for a place and a node that are there."""
        if place == self.size:
            return place if node == "" else None
        _, sign, number, pairs = self._found(place)
        if number == 0 and node == "":
            return place
        word = self.code.words[sign]
        end = place + len(word) - number
        at = led(self._steps, node, word[number:])
        if at == "":
            return end
        right, _ = along(pairs, self._paths, self._bits.of, at)
        if right is None:
            return None
        return end + right

    def right_from(self, place, node=""):
        """The least number of bits, at least place, behind which a reader that stood at this node there is right."""
        if not is_int(place) or place < 0 or place > self.size:
            raise BadPlace(place)
        check_node(self.code, node)
        return self._right(place, node)

    def flipped(self, place):
        """What one turned bit does: how many signs it touches, and behind how many bits all is right, or None."""
        self._check_bit(place)
        index, sign, number, _ = self._found(place)
        word = self.code.words[sign]
        turned = "1" if word[number] == "0" else "0"
        right = self._right(place + 1, led(self._steps, "", word[:number] + turned))
        if right is None or right == self.size:
            return (self.text.size - index, right)
        return (self.sign_at(right)[0] - index, right)


def coded(code, text):
    """The Coded of a text by rules."""
    if text.signs != code.size:
        raise OtherSize(text.signs, code.size)
    return Coded(code, text)
