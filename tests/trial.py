"""What the tests share: bunches, rows and codes found by looking at all of them."""

import itertools
from fractions import Fraction
from functools import lru_cache

from leastjoined.codes import all_codes


@lru_cache(maxsize=None)
def bunches_by_trial(lengths):
    """For each k the bunches, ascending, by a look at all sets of signs."""
    found = [[] for _ in range(max(lengths) + 1)]
    for many in range(1, len(lengths) + 1):
        for bunch in itertools.combinations(range(len(lengths)), many):
            width = sum(Fraction(1, 2 ** lengths[sign]) for sign in bunch)
            if width.numerator == 1:
                level = width.denominator.bit_length() - 1
                if min(lengths[sign] for sign in bunch) >= level:
                    found[level].append(bunch)
    return [sorted(row) for row in found]


@lru_cache(maxsize=None)
def rows_by_trial(lengths):
    """All rows (light, heavy) of a code, ascending."""
    levels = bunches_by_trial(lengths)
    return sorted(
        (light, heavy) for above, below in zip(levels, levels[1:]) for light in above for heavy in below
        if not set(light) & set(heavy)
    )


def borders_by_trial(lengths):
    return [row for row in rows_by_trial(lengths) if len(row[0]) == 1 or len(row[1]) == 1]


def weight(counts, bunch):
    return sum(counts[sign] for sign in bunch)


def slack_by_trial(lengths, counts, row):
    return weight(counts, row[0]) - weight(counts, row[1])


@lru_cache(maxsize=None)
def lengths_of_all(many):
    """The lengths of all full codes of so many signs."""
    return [code.lengths for code in all_codes(many)]


def cost_by_trial(lengths, counts):
    return sum(count * length for count, length in zip(counts, lengths))


def least_by_trial(counts):
    """The lengths of all full codes that cost least."""
    codes = lengths_of_all(len(counts))
    price = min(cost_by_trial(lengths, counts) for lengths in codes)
    return [lengths for lengths in codes if cost_by_trial(lengths, counts) == price]


def is_full(lengths):
    return sum(Fraction(1, 2 ** length) for length in lengths) == 1


def subsets(many):
    """All tuples of signs, ascending, also the empty one."""
    return [bunch for size in range(many + 1) for bunch in itertools.combinations(range(many), size)]
