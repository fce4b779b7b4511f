import itertools
import random
import unittest

from leastjoined.codes import Code, all_codes, cost
from leastjoined.joining import is_joining, joined, least_cost
from leastjoined.least import least_codes
from values import GREAT, any_values, deep, fields, no_integers, raised

TIES = ["old", "new", "few", "low"]
CHANCE = random.Random(7)


def rows_of_counts():
    """Counts of many sorts: few and many signs, zeros, ties, powers of two, numbers of 40 digits."""
    rows = [[0, 0], [1, 1], [0, 1], [GREAT, GREAT], [1, 1, 1, 2], [0, 0, 0, 0, 5], [3, 1, 2, 0, 2, 1]]
    for many in (2, 3, 5, 8, 13, 25, 26):
        rows += [[0] * many, [1] * many, [GREAT] * many, [2 ** at for at in range(many)]]
        rows += [[2 ** at for at in reversed(range(many))], [at for at in range(many)]]
        for most in (1, 2, 3, 10, GREAT):
            rows.append([CHANCE.randint(0, most) for _ in range(many)])
    return rows


def key_of(tie, node, weight, signs, heights):
    """By the words of the document: what the nodes are put in order by."""
    return {
        "old": (weight, node),
        "new": (weight, -node),
        "few": (weight, len(signs), node),
        "low": (weight, heights, node),
    }[tie]


def steps_by_trial(counts, tie):
    """The steps by looking through all nodes that are not yet joined."""
    nodes = {at: (count, {at}, 0) for at, count in enumerate(counts)}
    steps = []
    while len(nodes) > 1:
        order = sorted(nodes, key=lambda node: key_of(tie, node, *nodes[node]))
        one, other = nodes[order[0]], nodes[order[1]]
        made = (one[0] + other[0], one[1] | other[1], max(one[2], other[2]) + 1)
        steps.append((order[0], order[1], made[0]))
        nodes = {node: nodes[node] for node in order[2:]}
        nodes[len(counts) + len(steps) - 1] = made
    return tuple(steps)


def lengths_of(many, steps):
    """How many made nodes stand above each sign, by walking up from each."""
    above = {}
    for at, (one, other, _) in enumerate(steps):
        above[one] = above[other] = many + at
    lengths = []
    for sign in range(many):
        length = 0
        while sign in above:
            sign, length = above[sign], length + 1
        lengths.append(length)
    return tuple(lengths)


def all_joinings(counts):
    """All lists of steps with all ways of ties, one and other in ascending order."""
    def more(nodes, steps):
        if len(nodes) == 1:
            yield tuple(steps)
        for one, other in itertools.combinations(sorted(nodes), 2):
            heavier = max(nodes[one], nodes[other])
            rest = {node: weight for node, weight in nodes.items() if node not in (one, other)}
            if all(weight >= heavier for weight in rest.values()):
                made = nodes[one] + nodes[other]
                rest[len(counts) + len(steps)] = made
                yield from more(rest, [*steps, (one, other, made)])
    return more(dict(enumerate(counts)), [])


class JoinedTest(unittest.TestCase):
    def test_steps_by_trial(self):
        for counts in rows_of_counts():
            for tie in TIES:
                told = joined(counts, tie)
                self.assertEqual(told.steps, steps_by_trial(counts, tie))
                self.assertTrue(all(step.__class__ is tuple for step in told.steps))
                self.assertIs(told.steps.__class__, tuple)

    def test_code_and_cost(self):
        for counts in rows_of_counts():
            for tie in TIES:
                told = joined(counts, tie)
                self.assertEqual(told.code.lengths, lengths_of(len(counts), told.steps))
                self.assertTrue(told.code == Code(told.code.lengths))
                self.assertEqual(told.cost, cost(told.code, counts))
                self.assertEqual(told.cost, sum(step[2] for step in told.steps))
                self.assertEqual(told.cost, least_cost(counts))

    def test_no_code_costs_less(self):
        for many in (2, 3, 4, 5):
            codes = all_codes(many)
            for counts in itertools.product(range(4), repeat=many):
                self.assertEqual(least_cost(counts), min(cost(code, counts) for code in codes))
        for counts in ([0] * 7, [1] * 7, [64, 32, 16, 8, 4, 2, 1], [1, 1, 2, 3, 5, 8, 13], [9, 9, 9, 9, 1, 1, 1]):
            self.assertEqual(least_cost(counts), min(cost(code, counts) for code in all_codes(7)))

    def test_few_and_low(self):
        rows = [*itertools.product(range(4), repeat=5), [1, 1, 1, 1, 2, 2, 2], [0] * 7, [0, 0, 0, 0, 0, 1, 1], [1] * 6]
        for counts in rows:
            codes = least_codes(counts)
            few, low = joined(counts, "few").code, joined(counts, "low").code
            self.assertEqual(sum(few.lengths), min(sum(code.lengths) for code in codes))
            self.assertEqual(low.longest, min(code.longest for code in codes))

    def test_rules_of_ties_differ(self):
        told = {tie: joined([1, 1, 1, 2], tie) for tie in TIES}
        self.assertEqual(told["old"].steps, ((0, 1, 2), (2, 3, 3), (4, 5, 5)))
        self.assertEqual(told["new"].steps, ((2, 1, 2), (0, 4, 3), (3, 5, 5)))
        self.assertEqual([told[tie].code.lengths for tie in TIES[:2]], [(2, 2, 2, 2), (2, 3, 3, 1)])
        zeros = {tie: joined([0] * 5, tie) for tie in TIES}
        self.assertEqual(zeros["new"].steps, ((4, 3, 0), (5, 2, 0), (6, 1, 0), (7, 0, 0)))
        self.assertEqual(zeros["few"].steps, ((0, 1, 0), (2, 3, 0), (4, 5, 0), (6, 7, 0)))

    def test_longest_words(self):
        told = joined([2 ** at for at in range(26)], "old")
        self.assertEqual(told.code.longest, 25)
        self.assertEqual(joined([1] * 26, "old").code.longest, 5)

    def test_bad_ties(self):
        wrong = [value for value in any_values()]
        wrong += ["Old", "OLD", "old ", "ne", "lows", "few\n", ["old"], ("old",), [["new"]], {"old": 1}, deep(10)]
        for value in wrong:
            error = raised(joined, [1, 2, 3], value)
            self.assertEqual(fields(error), ("BadTie", value))
            self.assertIs(error.tie.__class__, value.__class__)

    def test_errors_of_counts_come_first(self):
        for many in (0, 1, 27):
            self.assertEqual(fields(raised(joined, [None] * many, "none")), ("TooMany", "signs", many, 26))
            self.assertEqual(fields(raised(least_cost, [None] * many)), ("TooMany", "signs", many, 26))
            self.assertEqual(fields(raised(is_joining, (1,) * many, None)), ("TooMany", "signs", many, 26))
        for value in [-1, -GREAT, *no_integers()]:
            self.assertEqual(fields(raised(joined, [1, value, value], "none")), ("BadCount", 1))
            self.assertEqual(fields(raised(joined, [1, 2, value], "old")), ("BadCount", 2))
            self.assertEqual(fields(raised(least_cost, (value, 3))), ("BadCount", 0))
            self.assertEqual(fields(raised(is_joining, [3, 3, value], [(0, 1, 6), (2, 3, 9)])), ("BadCount", 2))

    def test_arguments_are_not_changed(self):
        counts, steps = [5, 1, 1, 2], [[1, 2, 2], [3, 4, 4], [5, 0, 9]]
        for tie in TIES:
            self.assertEqual(joined(counts, tie).steps, joined(tuple(counts), tie).steps)
        self.assertTrue(is_joining(counts, steps))
        self.assertEqual(least_cost(counts), 15)
        self.assertEqual((counts, steps), ([5, 1, 1, 2], [[1, 2, 2], [3, 4, 4], [5, 0, 9]]))


class IsJoiningTest(unittest.TestCase):
    def test_what_joined_tells(self):
        for counts in rows_of_counts():
            for tie in TIES:
                steps = joined(counts, tie).steps
                turned = [[other, one, weight] for one, other, weight in steps]
                mixed = [step if at % 2 else list(step) for at, step in enumerate(turned)]
                for way in (steps, list(steps), turned, tuple(turned), mixed):
                    self.assertIs(is_joining(counts, way), True)

    def test_all_ways_of_ties(self):
        for counts in ([1, 1, 1, 2], [0, 0, 0, 0], [1, 2, 3, 3], [0, 1, 0, 1], [2, 1, 1, 0], [1, 1, 2, 2]):
            right = set(all_joinings(counts))
            found = set()
            for pairs in itertools.product(itertools.combinations(range(6), 2), repeat=3):
                weights = dict(enumerate(counts))
                steps = []
                for at, (one, other) in enumerate(pairs):
                    weights[4 + at] = weights.get(one, 0) + weights.get(other, 0)
                    steps.append((one, other, weights[4 + at]))
                if is_joining(counts, steps):
                    found.add(tuple(steps))
            self.assertEqual(found, right)

    def test_steps_left_out_doubled_exchanged(self):
        for counts in ([5, 1, 2], [1, 1, 1, 2], [0, 0, 0, 0], [9, 4, 4, 1, 7, 3], [1] * 26):
            steps = list(joined(counts, "old").steps)
            for at in range(len(steps)):
                self.assertIs(is_joining(counts, steps[:at] + steps[at + 1:]), False)
                self.assertIs(is_joining(counts, steps[:at] + [steps[at]] + steps[at:]), False)
                self.assertIs(is_joining(counts, steps[:at]), False)
            self.assertIs(is_joining(counts, [*steps, (0, 1, 0)]), False)
            self.assertIs(is_joining(counts, []), False)
        steps = list(joined([9, 4, 4, 1, 7, 3], "old").steps)
        for one, other in itertools.combinations(range(len(steps)), 2):
            exchanged = list(steps)
            exchanged[one], exchanged[other] = steps[other], steps[one]
            self.assertIs(is_joining([9, 4, 4, 1, 7, 3], exchanged), False)

    def test_other_weights_and_nodes(self):
        counts = [9, 4, 4, 1, 7, 3]
        steps = joined(counts, "old").steps
        for at, (one, other, weight) in enumerate(steps):
            wrong = [(one, other, weight + 1), (one, other, weight - 1), (one, other, -weight)]
            wrong += [(one, one, weight), (one, 99, weight), (-1, other, weight), (one, 6 + at, weight)]
            wrong += [(GREAT, other, weight), (one, other, GREAT)]
            for step in wrong:
                self.assertIs(is_joining(counts, [*steps[:at], step, *steps[at + 1:]]), False)
        self.assertIs(is_joining([1, 2, 3], [(0, 2, 4), (1, 3, 6)]), False)
        self.assertIs(is_joining([1, 2, 3], [(1, 2, 5), (0, 3, 6)]), False)
        self.assertIs(is_joining([0, 0], [(0, 0, 0)]), False)
        self.assertIs(is_joining([1, 1, 1], [(0, 1, 2), (0, 2, 2)]), False)
        self.assertIs(is_joining([1, 1, 1], [(0, 1, 2), (0, 3, 3)]), False)

    def test_values_that_are_no_steps(self):
        for value in [*any_values(), deep(10), "ab", [3, 4], [(0, 1)], [(0, 1, 2, 3)], {(0, 1, 2): 1}]:
            self.assertIs(is_joining([1, 1], value), False)
            self.assertIs(is_joining([1, 1], [value]), False)
            self.assertIs(is_joining([1, 1, 1], [(0, 1, 2), value]), False)
            self.assertIs(is_joining([1, 1, 1], (value, (2, 3, 3))), False)
        for value in no_integers():
            self.assertIs(is_joining([0, 1], [(value, 1, 1)]), False)
            self.assertIs(is_joining([0, 1], [(0, value, 1)]), False)
            self.assertIs(is_joining([0, 1], [[0, 1, value]]), False)
        self.assertIs(is_joining([0, 1], [(0, 1, 1)]), True)
        self.assertIs(is_joining([0, 1], [(False, 1, 1)]), False)
        self.assertIs(is_joining([0, 1], [(0, 1, True)]), False)


if __name__ == "__main__":
    unittest.main()
