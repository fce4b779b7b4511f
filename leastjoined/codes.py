"""Full codes: counts, words and what they cost."""

from math import comb

from leastjoined.errors import BadCount, BadLength, BadSize, BadWord, Begins, NotFull, OtherSize, TooMany
from leastjoined.kinds import is_int

FEWEST_SIGNS = 2
MOST_SIGNS = 26
LONGEST_WORD = 25
MOST_LISTED = 7


def check_many(many):
    """Raises TooMany unless there may be so many signs."""
    if many < FEWEST_SIGNS or many > MOST_SIGNS:
        raise TooMany("signs", many, MOST_SIGNS)


def check_counts(counts):
    """Raises TooMany or BadCount unless these are counts of 2 to 26 signs."""
    check_many(len(counts))
    for index, count in enumerate(counts):
        if not is_int(count) or count < 0:
            raise BadCount(index)


def check_counts_of(code, counts):
    """Raises what check_counts raises, then OtherSize unless there is a count for each sign of the code."""
    check_counts(counts)
    if len(counts) != code.size:
        raise OtherSize(len(counts), code.size)


def fits(code, counts):
    """Whether a value is a code and another one a tuple of counts, one for each of its signs."""
    if not isinstance(code, Code) or not isinstance(counts, tuple) or len(counts) != code.size:
        return False
    return all([is_int(count) and count >= 0 for count in counts])


def joint_level(lengths):
    """The k for which words of these lengths have the width 1 / 2 ** k together, None if there is none."""
    # So many widths of 1 / 2 ** level are found so far; what is odd among the narrowest ones stays odd.
    found, level = 0, 0
    for length in sorted(lengths, reverse=True):
        while found != 0 and length < level:
            if found & 1 == 1:
                return None
            found, level = found // 2, level - 1
        found, level = found + 1, length
    while found > 1 and found & 1 == 0:
        found, level = found // 2, level - 1
    if found == 1:
        return level
    return None


def check_lengths(lengths):
    """Raises TooMany, BadLength or NotFull unless these are lengths of a full code."""
    check_many(len(lengths))
    for index, length in enumerate(lengths):
        if not is_int(length) or length < 1 or length > LONGEST_WORD:
            raise BadLength(index)
    # In units of the narrowest width, so that all widths are integers.
    if sum([1 << (LONGEST_WORD - length) for length in lengths]) != 1 << LONGEST_WORD:
        raise NotFull()


def is_word(value, length):
    """Whether a value is a string of just so many bits."""
    if not isinstance(value, str) or len(value) != length:
        return False
    return value.count("0") + value.count("1") == length


def check_words(words, lengths):
    """Raises BadWord or Begins unless these are words of such lengths, none of which begins another one."""
    for index, word in enumerate(words):
        if not is_word(word, lengths[index]):
            raise BadWord(index)
    for index, word in enumerate(words):
        for other in range(index + 1, len(words)):
            if word.startswith(words[other]) or words[other].startswith(word):
                raise Begins(index, other)


def canonical_words(lengths):
    """The canonical words of a full code with these lengths."""
    words = [""] * len(lengths)
    number = 0
    ahead = 0
    for length, sign in sorted([(bits, index) for index, bits in enumerate(lengths)]):
        number = number << (length - ahead)
        words[sign] = f"{number:b}".zfill(length)
        number = number + 1
        ahead = length
    return words


class Code:
    """A full code: lengths and words, sign by sign."""

    def __init__(self, lengths, words=None):
        check_lengths(lengths)
        if words is None:
            self.words = tuple(canonical_words(lengths))
        else:
            check_words(words, lengths)
            self.words = tuple(words)
        self.lengths = tuple(lengths)
        self.size = len(lengths)
        self.longest = max(lengths)

    def __eq__(self, other):
        return isinstance(other, Code) and self.words == other.words


def cost(code, counts):
    """The sum of the counts, each times the length of its word."""
    check_counts_of(code, counts)
    return sum([count * code.lengths[sign] for sign, count in enumerate(counts)])


def check_size(size, most):
    """Raises BadSize unless this is a number of signs of at most so many."""
    if not is_int(size) or size < FEWEST_SIGNS or size > most:
        raise BadSize(size)


def number_of_codes(many):
    """How many lists of lengths full codes of so many signs have."""
    check_size(many, MOST_SIGNS)
    # ways[(ends, left)]: in how many ways the signs that are left get words, if these words begin
    # with just so many strings of one length. A string is done if it is a word, else it has two ends more.
    ways = {(0, 0): 1}
    for left in range(1, many + 1):
        for ends in range(left, 0, -1):
            ways[(ends, left)] = sum([
                comb(left, done) * ways.get((2 * (ends - done), left - done), 0)
                for done in range(ends + 1)
            ])
    return ways[(1, many)]


def can_fill(width, many):
    """Whether so many words can have this width together, in units that are no wider than each of them."""
    # A number is a sum of as many powers of two as it has bits 1, and of any greater number of them up to itself.
    return f"{width:b}".count("1") <= many <= width


def all_lengths(many):
    """The tuples of lengths of all full codes of so many signs, ascending."""
    longest = many - 1
    rows = [((), 1 << longest)]
    for left in range(many - 1, -1, -1):
        longer = [
            ((*lengths, length), width - (1 << (longest - length)))
            for lengths, width in rows for length in range(1, longest + 1)
        ]
        rows = [(lengths, width) for lengths, width in longer if can_fill(width, left)]
    return [row[0] for row in rows]


def all_codes(many):
    """All canonical codes of so many signs, ascending by their lengths."""
    check_size(many, MOST_LISTED)
    return tuple([Code(lengths) for lengths in all_lengths(many)])
