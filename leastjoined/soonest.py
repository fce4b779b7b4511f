"""Of all least codes one that is set right the soonest."""

from leastjoined.codes import Code
from leastjoined.kinds import frozen
from leastjoined.least import least_codes
from leastjoined.setting import Sets, setting


class Soonest:
    """A code and a string with as few bits as any that sets its readers right."""

    def __init__(self, code, bits):
        self.code = frozen(code)
        self.bits = frozen(bits)


def all_words(many):
    """The words of all full codes of so many words, whatever their order, as ascending tuples."""
    # found[k]: those of k words; one word alone has no bit yet.
    found = [[], [("",)]]
    for size in range(2, many + 1):
        found.append([
            tuple([f"0{word}" for word in low] + [f"1{word}" for word in high])
            for left in range(1, size) for low in found[left] for high in found[size - left]
        ])
    return found[many]


def with_words(code, words):
    """A code with the lengths of another one, and with these words, which have the same lengths in some order."""
    own = list(code.words)
    signs = [sign for _, sign in sorted([(length, sign) for sign, length in enumerate(code.lengths)])]
    for sign, (_, word) in zip(signs, sorted([(len(word), word) for word in words])):
        own[sign] = word
    return Code(code.lengths, own)


def soonest(counts):
    """The Soonest of all least codes with any words, None if none of them can be set right."""
    # Which sign has which word is the same to readers: one least code stands for all with as many words of each length.
    codes = {tuple(sorted(code.lengths)): code for code in least_codes(counts)}
    found = None
    for words in all_words(len(counts)):
        lengths = tuple(sorted([len(word) for word in words]))
        if lengths in codes:
            code = with_words(codes[lengths], words)
            told = setting(code)
            if isinstance(told, Sets) and (found is None or len(told.bits) < len(found.bits)):
                found = Soonest(code, told.bits)
    return found
