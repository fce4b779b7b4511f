"""What one turned bit of a coded text does."""

from leastjoined.delays import check_drawn, ends_behind, mean_prices
from leastjoined.ratios import Ratio
from leastjoined.readers import read, steps_of
from leastjoined.setting import fewest_steps


def gain_and_end(code, word, node=""):
    """How many signs more than one a reader reads with the bits of a word, and the node behind them."""
    reading = read(code, word, node)
    return (len(reading.signs) - 1, reading.node)


def starts_of(code):
    """For each bit of each word: the sign, the number of the bit, and gain_and_end of the word with this bit turned."""
    starts = []
    for sign, word in enumerate(code.words):
        for number, bit in enumerate(word):
            turned = "1" if bit == "0" else "0"
            gain, end = gain_and_end(code, word[:number] + turned + word[number + 1:])
            starts.append((sign, number, gain, end))
    return starts


def endless_signs(ends, node):
    """Signs, and signs that come again and again behind them, so that both readers are never at the root."""
    signs = []
    places = {}
    at = node
    while at not in places:
        places[at] = len(signs)
        # There is such a sign. If all words led from the node to the root, each one would be a way from the
        # node to the end of a word, with whole words behind it. Not all are such ways alone, as these end
        # words that are longer. But the words behind a way part as those of the code do, so that a longest
        # one is among them, and is only the end of a word.
        signs.append([sign for sign, end in enumerate(ends[at]) if end != ""][0])
        at = ends[at][signs[-1]]
    return (signs[:places[at]], signs[places[at]:])


def shown_by(starts, ends):
    """The triple (signs, place, ring) of signs that are touched."""
    for sign, number, _, node in starts:
        if node != "":
            signs, ring = endless_signs(ends, node)
            return ((sign, *signs), number, tuple(ring))
    # Each bit touches its own sign alone.
    return ((0,), 0, ())


def all_behind(nodes, ends):
    """A dict of True from nodes, and from all to which signs lead from them, one behind the other."""
    found = {node: True for node in nodes}
    left = list(found)
    while left:
        for end in ends.get(left.pop(), []):
            if end not in found:
                found[end] = True
                left.append(end)
    return found


def greatest_gain(starts, gains):
    """The greatest gain from one of the starts on up to the root, None if there is no bound.

    starts is a list of pairs (gain, node), gains a dict from nodes, but for the root, to such lists; from each
    node there is a way to the root.
    """
    before = {}
    best = {"": 0}
    # Behind k rounds best tells the greatest gains of ways of at most k steps. A way with more steps than
    # there are nodes goes round a ring, and gains by more and more rounds if it gains by one.
    for _ in range(len(gains) + 1):
        before = best
        best = {"": 0}
        for node in gains:
            found = [gain + before[end] for gain, end in gains[node] if end in before]
            if found:
                best[node] = max(found)
    if before != best:
        return None
    return max([gain + best[node] for gain, node in starts])


def gain_of(code, starts, ends):
    """The pair of the least and the greatest gain, None in the place of one that has no bound."""
    # Where the root is not reached any more, nothing is gained up to there.
    fit = fewest_steps(ends, "")
    first = [(gain, node) for _, _, gain, node in starts if node in fit]
    gains = {}
    for node in all_behind([node for _, node in first], ends):
        if node != "" and node in fit:
            told = [gain_and_end(code, word, node) for word in code.words]
            gains[node] = [(gain, end) for gain, end in told if end in fit]
    greatest = greatest_gain(first, gains)
    if greatest is None:
        return (None, None)
    # The turned text is a text, too, and the right one is what comes of turning the bit in it.
    return (-greatest, greatest)


class Flips:
    """How many signs one turned bit of a coded text touches, and how many signs more it gives."""

    def __init__(self, code):
        self.code = code
        self._steps = steps_of(code)
        self._starts = starts_of(code)
        ends = ends_behind(code, self._steps)
        self.shown = shown_by(self._starts, ends)
        self.most = None if self.shown[2] else 1
        self.gain = gain_of(code, self._starts, ends)

    def mean(self, counts):
        """The mean number of signs that a turned bit touches, None if it is not finite."""
        check_drawn(self.code, counts)
        means = mean_prices(self.code, self._steps, counts, [1] * self.code.size)
        total = Ratio(0)
        weight = 0
        for sign, _, _, node in self._starts:
            if node not in means:
                return None
            total = total + (means[node] + 1) * counts[sign]
            weight = weight + counts[sign]
        return total.divided(weight)


def flips(code):
    """The Flips of a code."""
    return Flips(code)
