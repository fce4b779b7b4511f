"""All errors of the package, each directly below JoinsError, with its fields as attributes."""

from leastjoined.kinds import kept


# No message shows a field: fields may be any values, also integers that are too long for str().
class JoinsError(ValueError):
    """What each error of the package is."""


class TooMany(JoinsError):
    """There are more of something than may be, or too few of it."""

    def __init__(self, what, many, most):
        JoinsError.__init__(self, "there are too many, or too few")
        self.what = kept(what)
        self.many = kept(many)
        self.most = kept(most)


class BadCount(JoinsError):
    """The count with this index is none."""

    def __init__(self, index):
        JoinsError.__init__(self, "this is no such count")
        self.index = kept(index)


class BadLength(JoinsError):
    """The length with this index is none."""

    def __init__(self, index):
        JoinsError.__init__(self, "this is no integer from 1 to 25")
        self.index = kept(index)


class NotFull(JoinsError):
    """The widths of the words do not sum to 1."""

    def __init__(self):
        JoinsError.__init__(self, "the widths do not sum to 1")


class BadWord(JoinsError):
    """The word with this index is none of its length."""

    def __init__(self, index):
        JoinsError.__init__(self, "this is no string of so many bits")
        self.index = kept(index)


class Begins(JoinsError):
    """Of the words of these two signs one begins the other."""

    def __init__(self, index, other):
        JoinsError.__init__(self, "one of these two words begins the other")
        self.index = kept(index)
        self.other = kept(other)


class OtherSize(JoinsError):
    """There are so many of something, and others were wanted."""

    def __init__(self, many, wanted):
        JoinsError.__init__(self, "there are not as many as wanted")
        self.many = kept(many)
        self.wanted = kept(wanted)


class BadSize(JoinsError):
    """This is no size that is allowed."""

    def __init__(self, size):
        JoinsError.__init__(self, "this is no size that is allowed")
        self.size = kept(size)


class NoBorder(JoinsError):
    """This is no such border or row of the code."""

    def __init__(self):
        JoinsError.__init__(self, "this is no such border or row of the code")


class TooShort(JoinsError):
    """Words of most bits are not enough, those of least bits are."""

    def __init__(self, most, least):
        JoinsError.__init__(self, "words of so few bits are not enough")
        self.most = kept(most)
        self.least = kept(least)


class TooLong(JoinsError):
    """The word of this sign is too long."""

    def __init__(self, sign):
        JoinsError.__init__(self, "the word of this sign is too long")
        self.sign = kept(sign)


class BadOver(JoinsError):
    """A fraction over 0, or over what is no number."""

    def __init__(self):
        JoinsError.__init__(self, "this is over 0, or over no number")


class BadTie(JoinsError):
    """This is no tie rule."""

    def __init__(self, tie):
        JoinsError.__init__(self, "this is no tie rule")
        self.tie = kept(tie)


class NotLeast(JoinsError):
    """The code is not least for the counts."""

    def __init__(self):
        JoinsError.__init__(self, "the code is not least for the counts")


class BadSign(JoinsError):
    """What stands at this index is no sign."""

    def __init__(self, index):
        JoinsError.__init__(self, "this is no sign")
        self.index = kept(index)


class BadRule(JoinsError):
    """This is no name, or its rule is none."""

    def __init__(self, name):
        JoinsError.__init__(self, "this is no name, or has no such rule")
        self.name = kept(name)


class Ring(JoinsError):
    """This name stands below itself."""

    def __init__(self, name):
        JoinsError.__init__(self, "this name stands below itself")
        self.name = kept(name)


class NoRule(JoinsError):
    """This root is no name that has a rule."""

    def __init__(self, root):
        JoinsError.__init__(self, "this is no name that has a rule")
        self.root = kept(root)


class BadPlace(JoinsError):
    """There is no such place."""

    def __init__(self, place):
        JoinsError.__init__(self, "there is no such place")
        self.place = kept(place)


class BadBits(JoinsError):
    """What stands at this index is no bit, or there are so many bits, not as wanted."""

    def __init__(self, index):
        JoinsError.__init__(self, "these are no such bits")
        self.index = kept(index)


class BadNode(JoinsError):
    """This is no such node."""

    def __init__(self, node):
        JoinsError.__init__(self, "this is no such node")
        self.node = kept(node)


class BadTable(JoinsError):
    """The table at this node is wrong, missing or needless."""

    def __init__(self, node):
        JoinsError.__init__(self, "the table at this node is wrong, missing or needless")
        self.node = kept(node)


class BadLooks(JoinsError):
    """This is no number of look-ups that is allowed."""

    def __init__(self, looks):
        JoinsError.__init__(self, "this is no number of look-ups that is allowed")
        self.looks = kept(looks)


class NoSigns(JoinsError):
    """All counts are 0."""

    def __init__(self):
        JoinsError.__init__(self, "all counts are 0")
