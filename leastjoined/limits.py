"""Words of no more than so many bits: the least code with them, and papers for and against a code."""

from leastjoined.codes import LONGEST_WORD, Code, check_counts, check_counts_of, cost, fits, joint_level
from leastjoined.errors import BadSize, TooLong, TooShort
from leastjoined.joining import least_cost
from leastjoined.kinds import frozen, is_int, is_same
from leastjoined.least import packed

# More than the bits of all words of a code together, so that one count more weighs more than all of them.
SCALE = 1000


class LeastWithin:
    """A paper that no code without longer words costs less: the worths of held and free coins of each width."""

    def __init__(self, code, counts, most, held, free):
        self.code = frozen(code)
        self.counts = frozen(counts)
        self.most = frozen(most)
        self.held = frozen(held)
        self.free = frozen(free)


class BetterWithin:
    """A paper that a code without longer words costs less: held coins, free ones worth less, and the code."""

    def __init__(self, code, counts, most, held, free, other):
        self.code = frozen(code)
        self.counts = frozen(counts)
        self.most = frozen(most)
        self.held = frozen(held)
        self.free = frozen(free)
        self.other = frozen(other)


def check_most(most):
    """Raises BadSize unless this is a number of bits that words may have."""
    if not is_int(most) or most < 1 or most > LONGEST_WORD:
        raise BadSize(most)


def fewest_bits(many):
    """The least number of bits with which there are words for so many signs."""
    return (many - 1).bit_length()


def cheapest_lengths(counts, most):
    """Lengths up to most of a full code that costs no more than any other one of them."""
    # Each coin weighs something, so that it comes ahead of all coins that it makes a greater one with: then
    # what is taken holds, with a coin (sign, k), all those of this sign with a lesser k.
    weights = [count * SCALE + 1 for count in counts]
    coins = [[(weight, ((sign, k),)) for sign, weight in enumerate(weights)] for k in range(1, most + 1)]
    lengths = [0] * len(counts)
    # The coins that a full code holds have the width n - 1 altogether, as many halves as are taken here.
    for node in packed([[], *coins])[1][:2 * len(counts) - 2]:
        for sign, _ in node[1]:
            lengths[sign] = lengths[sign] + 1
    return lengths


def least_within(counts, most):
    """A canonical code that costs no more than any other one without a word of more than most bits."""
    check_counts(counts)
    check_most(most)
    least = fewest_bits(len(counts))
    if most < least:
        raise TooShort(most, least)
    return Code(cheapest_lengths(counts, most))


def held_nodes(code, counts, most):
    """For each k the nodes (worth below 0, coins) of held coins, the ones that are worth most first."""
    groups = [
        [(-count, ((sign, k),)) for sign, count in enumerate(counts) if k <= code.lengths[sign]]
        for k in range(1, most + 1)
    ]
    return packed([[], *groups])


def free_nodes(code, counts, most):
    """For each k the nodes (worth, coins) of free coins, the ones that are worth least first."""
    groups = [
        [(count, ((sign, k),)) for sign, count in enumerate(counts) if k > code.lengths[sign]]
        for k in range(1, most + 1)
    ]
    return packed([[], *groups])


def first_worths(rows, by):
    """The worth of the first node for each k from 1 on, times by; None where there is none."""
    worths = []
    for nodes in rows[1:]:
        if nodes:
            worths.append(nodes[0][0] * by)
        else:
            worths.append(None)
    return tuple(worths)


def cheaper_at(held, free):
    """The first k at which free coins are worth less than held ones, None if there is none."""
    for at, worth in enumerate(held):
        if worth is not None and free[at] is not None and free[at] < worth:
            return at + 1
    return None


def judge_within(code, counts, most):
    """LeastWithin or BetterWithin: whether a code costs least of those without a longer word, and why."""
    check_counts_of(code, counts)
    check_most(most)
    for sign, length in enumerate(code.lengths):
        if length > most:
            raise TooLong(sign)
    held = held_nodes(code, counts, most)
    free = free_nodes(code, counts, most)
    worths = first_worths(held, -1)
    others = first_worths(free, 1)
    k = cheaper_at(worths, others)
    if k is None:
        return LeastWithin(code, counts, most, worths, others)
    return BetterWithin(code, counts, most, held[k][0][1], free[k][0][1], least_within(counts, most))


def fits_within(code, counts, most):
    """Whether these are a code and its counts, and the code has no word of more than most bits."""
    return fits(code, counts) and is_int(most) and code.longest <= most


def is_least_within(least):
    """Whether held and free of a LeastWithin are as told and show that its code costs least."""
    code, counts, most = least.code, least.counts, least.most
    # How many entries there are is looked at first: most may be any number.
    if not fits_within(code, counts, most) or not isinstance(least.held, tuple) or len(least.held) != most:
        return False
    worths = first_worths(held_nodes(code, counts, most), -1)
    others = first_worths(free_nodes(code, counts, most), 1)
    return is_same(least.held, worths) and is_same(least.free, others) and cheaper_at(worths, others) is None


def are_coins(value, size, most):
    """Whether a value is a tuple of coins of so many signs, ascending, each one once."""
    if not isinstance(value, tuple):
        return False
    ahead = (-1, 0)
    for coin in value:
        if not isinstance(coin, tuple) or len(coin) != 2 or not is_int(coin[0]) or not is_int(coin[1]):
            return False
        if coin <= ahead or coin[0] < 0 or coin[0] >= size or coin[1] < 1 or coin[1] > most:
            return False
        ahead = coin
    return True


def are_exchanged(code, held, free):
    """Whether coins are held and free ones, both of one width 1 / 2 ** k altogether."""
    if not all([k <= code.lengths[sign] for sign, k in held]) or not all([k > code.lengths[sign] for sign, k in free]):
        return False
    # No free coins have the width 1 altogether, as many as there may be: so k is 1 or more.
    level = joint_level([k for _, k in held])
    return level is not None and level == joint_level([k for _, k in free])


def is_better_within(better):
    """Whether held, free and other of a BetterWithin show that a code without a longer word costs less."""
    code, counts, most, other = better.code, better.counts, better.most, better.other
    if not fits_within(code, counts, most):
        return False
    if not are_coins(better.held, code.size, most) or not are_coins(better.free, code.size, most):
        return False
    if not are_exchanged(code, better.held, better.free):
        return False
    if sum([counts[sign] for sign, _ in better.free]) >= sum([counts[sign] for sign, _ in better.held]):
        return False
    if not fits_within(other, counts, most):
        return False
    return cost(other, counts) < cost(code, counts)


def prices(counts):
    """Pairs (most, cost) for all most from the least one on, up to the first one with which a code is least."""
    check_counts(counts)
    aim = least_cost(counts)
    found = []
    most = fewest_bits(len(counts))
    while not found or found[-1][1] > aim:
        found.append((most, cost(least_within(counts, most), counts)))
        most = most + 1
    return tuple(found)
