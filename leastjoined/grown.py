"""Great texts that are told by rules."""

from itertools import accumulate

from leastjoined.borders import borders
from leastjoined.codes import FEWEST_SIGNS, MOST_SIGNS, check_counts_of
from leastjoined.errors import BadPlace, BadRule, BadSize, NoRule, NotLeast, OtherSize, Ring, TooMany
from leastjoined.kinds import is_int
from leastjoined.least import is_least_for, weight_of

MOST_RULES = 300
MOST_PARTS = 40
MOST_LETTERS = 2000
MOST_SIGNS_READ = 8
LONGEST_NAME = 8


def is_name(value):
    """Whether a value is a word of 1 to 8 capital letters."""
    if not isinstance(value, str) or len(value) < 1 or len(value) > LONGEST_NAME:
        return False
    return all(["A" <= letter <= "Z" for letter in value])


def is_part(value, signs, rules):
    """Whether a value is a pair of a sign or a name that has a rule, and how often it stands there."""
    if not isinstance(value, (list, tuple)) or len(value) != 2:
        return False
    part, count = value
    if not is_int(count) or count < 1:
        return False
    if isinstance(part, str):
        return part in rules
    return is_int(part) and 0 <= part < signs


def is_rule(value, signs, rules):
    """Whether a value is a list of parts."""
    if not isinstance(value, (list, tuple)) or len(value) > MOST_PARTS:
        return False
    return all([is_part(part, signs, rules) for part in value])


def check_rules(signs, rules):
    """Raises TooMany or BadRule unless these are a number of signs and rules for them."""
    if not is_int(signs) or signs < FEWEST_SIGNS or signs > MOST_SIGNS:
        raise TooMany("signs", signs, MOST_SIGNS)
    if len(rules) < 1 or len(rules) > MOST_RULES:
        raise TooMany("rules", len(rules), MOST_RULES)
    for name in rules:
        if not is_name(name) or not is_rule(rules[name], signs, rules):
            raise BadRule(name)


def names_in(rule):
    """The names among the parts of a rule, each one once."""
    return list({part: True for part, _ in rule if isinstance(part, str)})


def names_upwards(rules):
    """The names of rules, each one behind all those that stand below it; those of rings and above are left out."""
    waits = {name: len(names_in(rules[name])) for name in rules}
    above = {name: [] for name in rules}
    for name in rules:
        for other in names_in(rules[name]):
            above[other].append(name)
    order = [name for name in rules if waits[name] == 0]
    at = 0
    while at < len(order):
        for name in above[order[at]]:
            waits[name] = waits[name] - 1
            if waits[name] == 0:
                order.append(name)
        at = at + 1
    return order


def is_below_itself(below, name):
    """Whether a name stands below itself; below is a dict from names to those that stand in their rules."""
    seen = {}
    left = list(below[name])
    while left:
        other = left.pop()
        if other == name:
            return True
        if other not in seen:
            seen[other] = True
            left.extend(below[other])
    return False


def check_rings(rules, order):
    """Raises Ring unless all names are in the order of names_upwards."""
    done = {name: True for name in order}
    below = {}
    for name in rules:
        if name not in done:
            # Those that are done are in no ring, and nothing below them is.
            below[name] = [other for other in names_in(rules[name]) if other not in done]
    for name in sorted(below):
        if is_below_itself(below, name):
            raise Ring(name)


def tallies_of(signs, rules, order):
    """A dict from names to how often each sign stands in their texts."""
    tallies = {}
    for name in order:
        often = {}
        for part, count in rules[name]:
            often[part] = often.get(part, 0) + count
        total = [often.get(sign, 0) for sign in range(signs)]
        for part, count in often.items():
            if isinstance(part, str):
                total = [before + count * more for before, more in zip(total, tallies[part])]
        tallies[name] = tuple(total)
    return tallies


class Text:
    """A text of the signs 0 to signs - 1 that is told by rules."""

    def __init__(self, signs, rules, root):
        check_rules(signs, rules)
        copied = {name: tuple([tuple(part) for part in rules[name]]) for name in rules}
        order = names_upwards(copied)
        check_rings(copied, order)
        if not isinstance(root, str) or root not in copied:
            raise NoRule(root)
        self.signs = signs
        self._rules = copied
        self.root = root
        self._tallies = tallies_of(signs, copied, order)
        self._sizes = {name: sum(self._tallies[name]) for name in order}
        # Names without a sign are left out, so that each part that is looked at has one; each name stands
        # behind all those below it.
        self._filled = {name: self._filled_rule(name) for name in order if self._sizes[name] > 0}
        self._ends = {name: self._ends_of(name) for name in self._filled}
        self.size = self._sizes[root]

    @property
    def rules(self):
        """The rules, a new dict from names to tuples of pairs."""
        return {name: self._rules[name] for name in self._rules}

    def __eq__(self, other):
        if not isinstance(other, Text):
            return False
        return self.signs == other.signs and self._rules == other._rules and self.root == other.root

    def _filled_rule(self, name):
        """The pairs of the rule of a name whose parts have a sign, those of one part side by side made one."""
        pairs = []
        for part, count in self._rules[name]:
            if pairs and pairs[-1][0] == part:
                pairs[-1] = (part, pairs[-1][1] + count)
            elif self.size_of(part) > 0:
                pairs.append((part, count))
        return tuple(pairs)

    def _ends_of(self, name):
        """How many signs a name has up to the end of each pair of its filled rule."""
        return list(accumulate([count * self.size_of(part) for part, count in self._filled[name]]))

    def filled_rules(self):
        """The rules without parts and names that have no sign, each name behind all those below it."""
        return {name: self._filled[name] for name in self._filled}

    def size_of(self, part):
        """How many signs a sign or a name has."""
        return self._sizes.get(part, 1)

    def _split(self, name, size):
        """The pairs that end within so many first signs of a name, the other pairs, and how many signs are left."""
        ends = [end for end in self._ends[name] if end <= size]
        rule = self._filled[name]
        if not ends:
            return (), rule, size
        return rule[:len(ends)], rule[len(ends):], size - ends[-1]

    def _added(self, tally, part, count):
        """A tally with so many texts of a sign or a name more."""
        if isinstance(part, str):
            return [before + count * more for before, more in zip(tally, self._tallies[part])]
        total = list(tally)
        total[part] = total[part] + count
        return total

    def tally(self):
        """How often each sign stands in the text."""
        return self._tallies[self.root]

    def ahead(self, size):
        """How often each sign stands in the beginning of this size."""
        if not is_int(size) or size < 0 or size > self.size:
            raise BadSize(size)
        total = [0] * self.signs
        name = self.root
        left = size
        while left > 0:
            whole, rest, left = self._split(name, left)
            for part, count in whole:
                total = self._added(total, part, count)
            if left > 0:
                name = rest[0][0]
                count, left = divmod(left, self.size_of(name))
                total = self._added(total, name, count)
        return tuple(total)

    def sign_of(self, at):
        """The sign with this index."""
        return self.part(at, 1)[0]

    def part(self, at, size):
        """The tuple of so many signs from this index on."""
        if size > MOST_LETTERS:
            raise TooMany("letters", size, MOST_LETTERS)
        if not is_int(at) or at < 0 or at > self.size - size:
            raise BadPlace(at)
        found = []
        left = at
        # What is still to be read, the next one last; as many signs of it as are left are passed over.
        waiting = [(self.root, 1)]
        while len(found) < size:
            one, count = waiting.pop()
            whole, left = divmod(left, self.size_of(one))
            if isinstance(one, str):
                if whole + 1 < count:
                    waiting.append((one, count - whole - 1))
                _, rest, left = self._split(one, left)
                waiting.extend(list(reversed(rest)))
            else:
                found.extend([one] * min(count - whole, size - len(found)))
        return tuple(found)


def falls(text, changes, limit):
    """A dict from signs and names to pairs (change, lowest), names of texts above the limit left out.

    Each sign changes a number; change is what all of a text change it by, lowest the least change by any
    of its beginnings of a sign or more.
    """
    told = {sign: (change, change) for sign, change in enumerate(changes)}
    for name, rule in text._filled.items():
        if text.size_of(name) <= limit:
            level = 0
            lows = []
            for part, count in rule:
                change, low = told[part]
                lows.append(level + low + min(0, (count - 1) * change))
                level = level + count * change
            told[name] = (level, min(lows))
    return told


def first_below(text, changes, start, limit):
    """The least size of a beginning that changes a number, start, to one below 0.

    None if there is none; where it is above the limit, another such size or None.
    """
    told = falls(text, changes, limit)
    name = text.root
    level = start
    place = 0
    while isinstance(name, str):
        for part, count in text._filled.get(name, ()):
            if part not in told:
                # All sizes up to the limit end in this part, and in the first one of them.
                name = part
                break
            change, low = told[part]
            if level + low + min(0, (count - 1) * change) < 0:
                # The first one of them in which it falls so low.
                whole = 0
                if level + low >= 0:
                    whole = (level + low) // -change + 1
                place = place + whole * text.size_of(part)
                level = level + whole * change
                name = part
                break
            place = place + count * text.size_of(part)
            level = level + count * change
        else:
            return None
    return place + 1


def first_lost(code, counts, text):
    """The least size of a beginning of a text behind counts with which a code is least no more, None if none is."""
    if code.size > MOST_SIGNS_READ:
        raise TooMany("signs", code.size, MOST_SIGNS_READ)
    check_counts_of(code, counts)
    if text.signs != code.size:
        raise OtherSize(text.signs, code.size)
    if not is_least_for(code, counts):
        raise NotLeast()
    first = None
    limit = text.size
    for light, heavy in borders(code):
        changes = [0] * code.size
        for sign in light:
            changes[sign] = 1
        for sign in heavy:
            changes[sign] = -1
        place = first_below(text, changes, weight_of(counts, light) - weight_of(counts, heavy), limit)
        if place is not None and place <= limit:
            first = place
            limit = place
    return first
