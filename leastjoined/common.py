"""One code that is least for several counts, and as few codes as can be along a text."""

from leastjoined.codes import FEWEST_SIGNS, MOST_SIGNS, Code, check_counts, cost
from leastjoined.errors import BadSign, BadSize, OtherSize, TooMany
from leastjoined.joining import joined, least_cost
from leastjoined.kinds import frozen, is_int, is_same

MOST_ROWS = 2000
MOST_LETTERS = 2000


class Common:
    """A paper that a code is least for each row of counts."""

    def __init__(self, rows, code):
        self.rows = frozen(rows)
        self.code = frozen(code)


class Apart:
    """A paper that no code is least for all rows: the least cost for their sum, and the least costs for each."""

    def __init__(self, rows, whole, parts):
        self.rows = frozen(rows)
        self.whole = frozen(whole)
        self.parts = frozen(parts)


class Plan:
    """The codes along a text with the sizes from which on they serve, and the stops at which others are needed."""

    def __init__(self, codes, stops):
        self.codes = frozen(codes)
        self.stops = frozen(stops)


def check_rows(rows):
    """Raises TooMany, then for each row the errors of check_counts and OtherSize."""
    if len(rows) < 1 or len(rows) > MOST_ROWS:
        raise TooMany("rows", len(rows), MOST_ROWS)
    for row in rows:
        check_counts(row)
        if len(row) != len(rows[0]):
            raise OtherSize(len(row), len(rows[0]))


def sum_of(rows):
    """The sums of the counts of rows, sign by sign."""
    return [sum([row[sign] for row in rows]) for sign in range(len(rows[0]))]


def common(rows):
    """Common or Apart: whether some code is least for all rows of counts."""
    check_rows(rows)
    total = sum_of(rows)
    least = joined(total, "old")
    parts = [least_cost(row) for row in rows]
    # A code costs for the sum what it costs for the rows together, and for none less than the least code does.
    if least.cost == sum(parts):
        return Common(rows, least.code)
    return Apart(rows, least.cost, parts)


def is_common(told):
    """Whether the code of a Common is least for each of its rows."""
    check_rows(told.rows)
    if not isinstance(told.code, Code) or told.code.size != len(told.rows[0]):
        return False
    return all([cost(told.code, row) == least_cost(row) for row in told.rows])


def is_apart(told):
    """Whether whole and parts of an Apart are as told and show that no code is least for all of its rows."""
    check_rows(told.rows)
    whole = least_cost(sum_of(told.rows))
    parts = tuple([least_cost(row) for row in told.rows])
    return is_same(told.whole, whole) and is_same(told.parts, parts) and whole > sum(parts)


def check_text(many, text, first):
    """Raises the errors of a number of signs, a text of them and the size of its first beginning."""
    if not is_int(many) or many < FEWEST_SIGNS or many > MOST_SIGNS:
        raise TooMany("signs", many, MOST_SIGNS)
    if len(text) > MOST_LETTERS:
        raise TooMany("letters", len(text), MOST_LETTERS)
    for index, sign in enumerate(text):
        if not is_int(sign) or sign < 0 or sign >= many:
            raise BadSign(index)
    if not is_int(first) or first < 0 or first > len(text):
        raise BadSize(first)


class Beginnings:
    """The counts of all beginnings of a text, and their least costs, both added up."""

    def __init__(self, many, text):
        counts = [0] * many
        total = [0] * many
        self.totals = [tuple(total)]
        self.prices = [0]
        for size in range(len(text) + 1):
            if size > 0:
                counts[text[size - 1]] = counts[text[size - 1]] + 1
            total = [before + count for before, count in zip(total, counts)]
            self.totals.append(tuple(total))
            self.prices.append(self.prices[size] + least_cost(counts))

    def sum_from(self, start, size):
        """The sum of the counts of the beginnings of the sizes from start to size."""
        ahead = self.totals[start]
        return [total - ahead[sign] for sign, total in enumerate(self.totals[size + 1])]

    def price_from(self, start, size):
        """The sum of the least costs of these beginnings."""
        return self.prices[size + 1] - self.prices[start]

    def are_apart(self, start, size):
        """Whether no code is least for all of these beginnings."""
        return least_cost(self.sum_from(start, size)) > self.price_from(start, size)

    def are_served(self, code, start, size):
        """Whether a code is least for all of these beginnings."""
        return cost(code, self.sum_from(start, size)) == self.price_from(start, size)


def plan(many, text, first):
    """The Plan of as few codes as can be for the beginnings of a text from the size first on."""
    check_text(many, text, first)
    begun = Beginnings(many, text)
    codes = []
    stops = []
    start = first
    # Each code serves as long as one can: any other one that serves from there or later on ends no later.
    for size in range(first + 1, len(text) + 1):
        if begun.are_apart(start, size):
            codes.append((start, joined(begun.sum_from(start, size - 1), "old").code))
            stops.append((start, size))
            start = size
    codes.append((start, joined(begun.sum_from(start, len(text)), "old").code))
    return Plan(codes, stops)


def is_pair(value):
    """Whether a value is a pair, a tuple or a list."""
    return isinstance(value, (list, tuple)) and len(value) == 2


def are_codes(begun, first, last, codes):
    """Whether pairs (size, code) serve all beginnings of the sizes from first to last, one behind the other."""
    if not all([is_pair(pair) and is_int(pair[0]) and isinstance(pair[1], Code) for pair in codes]):
        return False
    starts = [pair[0] for pair in codes]
    ends = [start - 1 for start in starts[1:]]
    ends.append(last)
    if starts[0] != first or any([start > ends[at] for at, start in enumerate(starts)]):
        return False
    many = len(begun.totals[0])
    return all([
        code.size == many and begun.are_served(code, starts[at], ends[at]) for at, (_, code) in enumerate(codes)
    ])


def are_stops(begun, first, last, stops):
    """Whether pairs (start, size), in order, tell sizes from first to last with no code for all of them."""
    ahead = first
    for pair in stops:
        if not is_pair(pair) or not is_int(pair[0]) or not is_int(pair[1]):
            return False
        start, size = pair
        if start < ahead or size <= start or size > last or not begun.are_apart(start, size):
            return False
        ahead = size
    return True


def is_plan(many, text, first, codes, stops):
    """Whether codes and stops are those of some Plan of the text."""
    check_text(many, text, first)
    if not isinstance(codes, (list, tuple)) or not isinstance(stops, (list, tuple)) or len(codes) != len(stops) + 1:
        return False
    begun = Beginnings(many, text)
    return are_codes(begun, first, len(text), codes) and are_stops(begun, first, len(text), stops)
