"""What the tests share: values of all kinds, and the errors of calls."""

from leastjoined.codes import Code
from leastjoined.errors import BadCount, JoinsError
from leastjoined.ratios import Ratio

GREAT = 10 ** 40 - 1


def no_integers():
    """Values of every kind that are no integers, new with each call."""
    return [
        None, True, False, "", "3", "00", (), (3,), [], [3], [[2]], {}, {3: 3}, {"a": [1]},
        Ratio(3), Ratio(1, 2), Code([1, 1]), BadCount(3),
    ]


def any_values():
    """Values of every kind."""
    return [-1, 0, 1, 10 ** 39, *no_integers()]


def deep(times):
    """A list that is nested so many times."""
    value = []
    for _ in range(times - 1):
        value = [value]
    return value


def raised(call, *args):
    """The error of the package that a call raises, None if it raises none."""
    try:
        call(*args)
    except JoinsError as error:
        return error
    return None


def fields(error):
    """The class of an error of the package and its fields, in the order in which they were set."""
    return (error.__class__.__name__, *vars(error).values())
