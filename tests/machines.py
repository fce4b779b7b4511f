"""What the tests share: codes with told words, and readers bit by bit, told by the words alone."""

import itertools
import random
from functools import lru_cache

from leastjoined.codes import Code


@lru_cache(maxsize=None)
def trees(many):
    """The words of all full codes of so many words, each set of words once, as ascending tuples."""
    if many == 1:
        return [("",)]
    return [
        tuple("0" + word for word in one) + tuple("1" + word for word in other)
        for left in range(1, many) for one in trees(left) for other in trees(many - left)
    ]


def of_words(words):
    """The code with these words."""
    return Code([len(word) for word in words], list(words))


def mixed(words, seed):
    """The code with these words in another order."""
    order = list(words)
    random.Random(seed).shuffle(order)
    return of_words(order)


def split_code(many, seed, deep=False):
    """Some code of so many signs: words are taken by chance and go on with both bits; deep: long ones rather."""
    chance = random.Random(seed)
    words = [""]
    while len(words) < many:
        fit = [word for word in words if len(word) < 25]
        longest = max(len(word) for word in fit)
        if deep and chance.random() < 0.8:
            fit = [word for word in fit if len(word) == longest]
        word = chance.choice(fit)
        words.remove(word)
        words += [word + "0", word + "1"]
    chance.shuffle(words)
    return of_words(words)


def twice(words):
    """The words of a code put together of a code twice."""
    return tuple(one + other for one in words for other in words)


@lru_cache(maxsize=None)
def nodes_of_words(words):
    """The nodes, shorter ones first, then as strings."""
    return sorted({word[:size] for word in words for size in range(len(word))}, key=lambda node: (len(node), node))


def walk(words, node, bits):
    """The node behind bits, the words that end and how many bits were read with each."""
    told, ends = [], []
    for count, bit in enumerate(bits, start=1):
        node += bit
        if node in words:
            told.append(words.index(node))
            ends.append(count)
            node = ""
    return node, tuple(told), tuple(ends)


def goal(words, node, bits):
    return walk(words, node, bits)[0]


def strings(size):
    """All strings of so many bits."""
    return ["".join(bits) for bits in itertools.product("01", repeat=size)]


def turned(bits, place):
    """Bits with the one at this place turned."""
    return bits[:place] + ("1" if bits[place] == "0" else "0") + bits[place + 1:]


def shortest_by_trial(words):
    """How many bits the shortest string has behind which readers at all nodes are one, None if there is none.

    Over all sets of nodes.
    """
    groups = {frozenset(nodes_of_words(words))}
    seen = set(groups)
    size = 0
    while groups:
        if any(len(group) == 1 for group in groups):
            return size
        groups = {frozenset(goal(words, node, bit) for node in group) for group in groups for bit in "01"} - seen
        seen |= groups
        size += 1
    return None


@lru_cache(maxsize=None)
def never_set(many):
    """The sets of so many words that no string sets right."""
    return [words for words in trees(many) if shortest_by_trial(words) is None]


# No word begins another one, and no word ends another one.
BOTH_WAYS = ("000", "0010", "0011", "01", "100", "1010", "1011", "110", "111")
