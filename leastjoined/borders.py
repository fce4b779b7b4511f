"""For which counts a code is least: its bunches, and the borders between it and other codes."""

from itertools import combinations
from math import comb

from leastjoined.codes import fits
from leastjoined.errors import BadSize, NoBorder, TooMany
from leastjoined.kinds import frozen, is_int
from leastjoined.least import beyond, is_row, level_of, signs_by_length, weight_of

MOST_LISTED = 5000
# How finely the counts of a border tell its bunch from all others of its level.
FINENESS = 8


class Border:
    """A border of a code, the code beyond it, and counts for which just these two are least."""

    def __init__(self, code, light, heavy, counts, other):
        self.code = frozen(code)
        self.light = frozen(light)
        self.heavy = frozen(heavy)
        self.counts = frozen(counts)
        self.other = frozen(other)


def ways_to_fill(groups):
    """ways[k]: a dict from n to how many sets of signs with words of k bits or more have the width n / 2 ** k."""
    rows = []
    ways = {0: 1}
    for group in reversed(groups):
        many = len(group)
        totals = [
            sum([comb(many, done) * ways.get(2 * (width - done), 0) for done in range(min(many, width) + 1)])
            for width in range(many + max(ways) // 2 + 1)
        ]
        ways = {width: total for width, total in enumerate(totals) if total > 0}
        rows.append(ways)
    return list(reversed(rows))


def filled(groups, ways, level, width):
    """All tuples of signs with words of level bits or more that have the width width / 2 ** level."""
    if width == 0:
        return [()]
    found = []
    group = groups[level]
    for done in range(min(len(group), width) + 1):
        left = 2 * (width - done)
        # Only what can be filled is looked at, so that there are no more steps than there are tuples.
        if left == 0 or level + 1 < len(ways) and left in ways[level + 1]:
            rests = filled(groups, ways, level + 1, left)
            for some in combinations(group, done):
                found.extend([(*some, *rest) for rest in rests])
    return found


def bunches_of(groups, level):
    """All bunches at a level, ascending."""
    return sorted([tuple(sorted(bunch)) for bunch in filled(groups, ways_to_fill(groups), level, 1)])


def number_of_bunches(code, level):
    """How many bunches a code has at a level."""
    if not is_int(level) or level < 0 or level > code.longest:
        raise BadSize(level)
    return ways_to_fill(signs_by_length(code))[level].get(1, 0)


def bunches(code, level):
    """All bunches of a code at a level, ascending, if there are no more than 5,000."""
    many = number_of_bunches(code, level)
    if many > MOST_LISTED:
        raise TooMany("bunches", many, MOST_LISTED)
    return tuple(bunches_of(signs_by_length(code), level))


def number_of_borders(code):
    """How many borders a code has."""
    groups = signs_by_length(code)
    ways = ways_to_fill(groups)
    total = 0
    for level in range(1, code.longest):
        total = total + len(groups[level]) * ways[level + 1].get(1, 0)
        if groups[level + 1]:
            # As many for each sign of this length; those with one sign on both sides are in the total already.
            others = ways_to_fill(signs_by_length(code, groups[level + 1][0]))[level].get(1, 0)
            total = total + len(groups[level + 1]) * (others - len(groups[level]))
    return total


def all_borders(code):
    """All borders of a code, as pairs of light and heavy, ascending."""
    groups = signs_by_length(code)
    found = []
    for level in range(1, code.longest):
        if groups[level]:
            heavies = bunches_of(groups, level + 1)
            found.extend([((sign,), heavy) for sign in groups[level] for heavy in heavies])
        for sign in groups[level + 1]:
            lights = bunches_of(signs_by_length(code, sign), level)
            found.extend([(light, (sign,)) for light in lights if len(light) > 1])
    return sorted(found)


def borders(code):
    """All borders of a code, as pairs of light and heavy, ascending, if there are no more than 5,000."""
    many = number_of_borders(code)
    if many > MOST_LISTED:
        raise TooMany("borders", many, MOST_LISTED)
    return tuple(all_borders(code))


def is_border_row(code, light, heavy):
    """Whether two values are a row of the code, and one of them a single sign."""
    return is_row(code, light, heavy) and (len(light) == 1 or len(heavy) == 1)


def counts_at(code, light, heavy):
    """Counts for which a border holds with equal weights, and all other borders with unequal ones."""
    # With counts like the widths each light bunch weighs twice as much as a heavy one. The single sign is put
    # to the weight of the bunch on the other side; and this bunch is made, of all of its level, the one that
    # is told from the others: heavier a little if it is heavy, lighter a little if it is light.
    if len(light) == 1:
        single, length = light[0], code.lengths[light[0]] + 1
        bunch, scale = heavy, FINENESS + 1
    else:
        single, length = heavy[0], code.lengths[heavy[0]] - 1
        bunch, scale = light, FINENESS - 1
    counts = [FINENESS << (code.longest - bits) for bits in code.lengths]
    for sign in bunch:
        counts[sign] = scale << (code.longest - code.lengths[sign])
    counts[single] = scale << (code.longest - length)
    return counts


def border(code, light, heavy):
    """The Border of a code that two bunches tell."""
    if not is_border_row(code, light, heavy):
        raise NoBorder()
    return Border(code, light, heavy, counts_at(code, light, heavy), beyond(code, light, heavy))


def halves(code, bunch):
    """Two bunches, a level below, that are together a bunch of more than one sign."""
    half = 1 << (code.longest - level_of(code, bunch) - 1)
    one, other = [], []
    # The widest ones first, so that their widths come to just the half.
    for length, sign in sorted([(code.lengths[sign], sign) for sign in bunch]):
        if half > 0:
            one.append(sign)
            half = half - (1 << (code.longest - length))
        else:
            other.append(sign)
    return tuple(sorted(one)), tuple(sorted(other))


def parts(code, light, heavy):
    """Two rows, their levels greater by one, that are together a row that is no border."""
    if not is_row(code, light, heavy) or is_border_row(code, light, heavy):
        raise NoBorder()
    lights = halves(code, light)
    heavies = halves(code, heavy)
    return (lights[0], heavies[0]), (lights[1], heavies[1])


def is_border(border):
    """Whether light and heavy of a Border are a border, and counts and other as told."""
    code, light, heavy, counts = border.code, border.light, border.heavy, border.counts
    rows = borders(code)
    if not is_border_row(code, light, heavy) or not fits(code, counts) or min(counts) < 1:
        return False
    if beyond(code, light, heavy) != border.other:
        return False
    if weight_of(counts, light) != weight_of(counts, heavy):
        return False
    others = [row for row in rows if row != (light, heavy)]
    return all([weight_of(counts, row[0]) > weight_of(counts, row[1]) for row in others])
