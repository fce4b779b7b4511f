"""Exact fractions."""

from math import gcd

from leastjoined.errors import BadOver
from leastjoined.kinds import is_int

BLOCK_DIGITS = 64
BLOCK = 10 ** 64


def digits(number):
    """The decimal figures of an integer from 0 on."""
    # By blocks, as str() refuses integers of more than 4300 figures.
    blocks = []
    rest = number
    while rest >= BLOCK:
        rest, low = divmod(rest, BLOCK)
        blocks.append(str(low).zfill(BLOCK_DIGITS))
    blocks.append(str(rest))
    return "".join(reversed(blocks))


def signed_digits(number):
    """The decimal figures of an integer, a minus ahead of them if it is below 0."""
    if number < 0:
        return f"-{digits(-number)}"
    return digits(number)


def ratio_of(value):
    """The Ratio that a Ratio or an integer is; None for any other value."""
    if isinstance(value, Ratio):
        return value
    if is_int(value):
        return Ratio(value)
    return None


class Ratio:
    """The fraction number / over, in lowest terms, over above 0."""

    def __init__(self, number, over=1):
        if not is_int(over) or over == 0:
            raise BadOver()
        shared = gcd(number, over)
        if over < 0:
            shared = -shared
        self.number = number // shared
        self.over = over // shared

    def __add__(self, other):
        more = ratio_of(other)
        if more is None:
            return NotImplemented
        return Ratio(self.number * more.over + more.number * self.over, self.over * more.over)

    def __radd__(self, other):
        if not is_int(other):
            return NotImplemented
        return Ratio(other * self.over + self.number, self.over)

    def __sub__(self, other):
        less = ratio_of(other)
        if less is None:
            return NotImplemented
        return Ratio(self.number * less.over - less.number * self.over, self.over * less.over)

    def __rsub__(self, other):
        if not is_int(other):
            return NotImplemented
        return Ratio(other * self.over - self.number, self.over)

    def __mul__(self, other):
        by = ratio_of(other)
        if by is None:
            return NotImplemented
        return Ratio(self.number * by.number, self.over * by.over)

    def __rmul__(self, other):
        if not is_int(other):
            return NotImplemented
        return Ratio(other * self.number, self.over)

    def __neg__(self):
        return Ratio(-self.number, self.over)

    def __abs__(self):
        return Ratio(abs(self.number), self.over)

    def __eq__(self, other):
        return isinstance(other, Ratio) and self.number == other.number and self.over == other.over

    def __str__(self):
        if self.over == 1:
            return f"{signed_digits(self.number)}"
        return f"{signed_digits(self.number)}/{digits(self.over)}"

    def is_less(self, other):
        """Whether this is less than a Ratio or an integer."""
        than = ratio_of(other)
        return self.number * than.over < than.number * self.over

    def divided(self, other):
        """The quotient by a Ratio or an integer; BadOver for 0 and for any other value."""
        by = ratio_of(other)
        if by is None or by.number == 0:
            raise BadOver()
        return Ratio(self.number * by.over, self.over * by.number)
