import random
import unittest
from fractions import Fraction
from unittest import mock

from leastjoined.codes import Code
from leastjoined.delays import Delays, delays, never_lost
from leastjoined.ratios import Ratio
from machines import (
    BOTH_WAYS, goal, mixed, never_set, nodes_of_words, of_words, split_code, strings, trees, twice,
)
from markov import chances, may_stay, means
from values import GREAT, any_values, fields, no_integers, raised

CHANCE = random.Random(18)
DEEP = Code([*range(1, 26), 25])


def codes():
    """Codes of two to eight signs with any words."""
    told = [mixed(words, seed) for many in range(2, 6) for seed, words in enumerate(trees(many))]
    told += [mixed(words, seed) for seed, words in enumerate(trees(6)[::4])]
    told += [split_code(many, seed, deep) for many in (7, 8) for seed in range(4) for deep in (False, True)]
    told += [of_words(words) for words in never_set(7)]
    return told + [Code([3] * 8), of_words(twice(("0", "1")))]


def pairs_of(code):
    nodes = nodes_of_words(code.words)
    return [(one, other) for one in nodes for other in nodes]


def behind(words, pairs):
    """The pairs of nodes behind one bit more."""
    return {(goal(words, one, bit), goal(words, other, bit)) for one, other in pairs for bit in "01"}


def by_trial(words, one, other):
    """The fewest and the most bits until two readers are one: over all pairs behind so many bits."""
    fewest, size, pairs = None, 0, {(one, other)}
    # Behind so many bits some pair has come twice.
    while size <= (len(words) - 1) ** 2:
        if fewest is None and any(first == second for first, second in pairs):
            fewest = size
        pairs = {pair for pair in pairs if pair[0] != pair[1]}
        if not pairs:
            return fewest, size
        pairs = behind(words, pairs)
        size += 1
    return fewest, None


class FewestAndGreatestTest(unittest.TestCase):
    def test_all_pairs(self):
        nones = set()
        for code in codes():
            told = delays(code)
            self.assertIsInstance(told, Delays)
            self.assertEqual(told.code, code)
            for one, other in pairs_of(code):
                wanted = by_trial(code.words, one, other)
                self.assertEqual((told.fewest(one, other), told.greatest(one, other)), wanted, (code.words, one, other))
                nones.add((wanted[0] is None, wanted[1] is None))
        self.assertEqual(nones, {(False, False), (False, True), (True, True)})

    def test_by_all_strings(self):
        for code in codes()[:25]:
            told = delays(code)
            for one, other in pairs_of(code):
                fewest, greatest = told.fewest(one, other), told.greatest(one, other)
                makes = [
                    [goal(code.words, one, bits) == goal(code.words, other, bits) for bits in strings(size)]
                    for size in range(8)
                ]
                some = [size for size in range(8) if any(makes[size])]
                every = [size for size in range(8) if all(makes[size])]
                if fewest is None or fewest > 7:
                    self.assertEqual(some, [])
                else:
                    self.assertEqual(some[0], fewest)
                if greatest is None or greatest > 7:
                    self.assertEqual(every, [])
                else:
                    self.assertEqual(every[0], greatest)

    def test_equal_nodes(self):
        for code in [Code([1, 1]), Code([2] * 4), DEEP]:
            told = delays(code)
            for node in nodes_of_words(code.words):
                self.assertEqual((told.fewest(node, node), told.greatest(node, node)), (0, 0))
                self.assertEqual(told.apart_by(node, node), ("", ""))

    def test_great_codes(self):
        told = delays(DEEP)
        for one, other in [("", "1"), ("1" * 24, "1" * 3), ("1" * 24, "1" * 23)]:
            self.assertEqual((told.fewest(one, other), told.greatest(one, other)), by_trial(DEEP.words, one, other))
        for seed in range(3):
            code = split_code(26, seed, seed == 2)
            told = delays(code)
            for one, other in CHANCE.sample(pairs_of(code), 5):
                self.assertEqual(
                    (told.fewest(one, other), told.greatest(one, other)), by_trial(code.words, one, other))
        told = delays(Code([4] * 16))
        self.assertEqual((told.fewest("", "0"), told.greatest("", "0")), (None, None))
        self.assertEqual((told.fewest("01", "10"), told.greatest("01", "10")), (2, 2))


class ApartByTest(unittest.TestCase):
    def agrees(self, code, one, other):
        told = delays(code)
        greatest = told.greatest(one, other)
        front, ring = told.apart_by(one, other)
        self.assertEqual((type(front), type(ring), set(front + ring) | {"0", "1"}), (str, str, {"0", "1"}))
        first, second = goal(code.words, one, front), goal(code.words, other, front)
        if greatest is None:
            self.assertTrue(ring)
            self.assertNotEqual(first, second)
            self.assertEqual((goal(code.words, first, ring), goal(code.words, second, ring)), (first, second))
        else:
            self.assertEqual((len(front), ring), (max(greatest - 1, 0), ""))
            if greatest:
                self.assertNotEqual(first, second)

    def test_all_pairs(self):
        for code in codes():
            for one, other in pairs_of(code):
                self.agrees(code, one, other)

    def test_great_codes(self):
        for code in (DEEP, Code([4] * 16), split_code(26, 1), of_words(twice(trees(5)[4])), of_words(BOTH_WAYS)):
            for one, other in CHANCE.sample(pairs_of(code), 40):
                self.agrees(code, one, other)


class MeanTest(unittest.TestCase):
    def counts_of(self, code):
        """Counts above 0: equal ones, small ones and great ones."""
        many = code.size
        return [[1] * many, [CHANCE.randint(1, 9) for _ in range(many)], [CHANCE.randint(1, GREAT) for _ in range(many)]]

    def test_the_equations_of_one_bit(self):
        nones = set()
        for code in codes():
            told = delays(code)
            for counts in self.counts_of(code):
                means_of = {pair: told.mean(*pair, counts) for pair in pairs_of(code)}
                for (one, other), mean in means_of.items():
                    nones.add(mean is None)
                    self.assertEqual(mean is None, may_stay(code.words, (one, other)), (code.words, one, other))
                    if one == other:
                        self.assertEqual(mean, Ratio(0))
                    elif mean is not None:
                        self.assertIsInstance(mean, Ratio)
                        value = 1
                        for bit, chance in chances(code.words, counts, one).items():
                            after = means_of[(goal(code.words, one, bit), goal(code.words, other, bit))]
                            value += chance * Fraction(after.number, after.over)
                        self.assertEqual(Fraction(mean.number, mean.over), value)
        self.assertEqual(nones, {True, False})

    def test_against_the_solved_equations(self):
        for code in codes()[::3]:
            told = delays(code)
            for counts in self.counts_of(code):
                for pair in CHANCE.sample(pairs_of(code), min(4, len(pairs_of(code)))):
                    if not may_stay(code.words, pair):
                        wanted = means(code.words, counts, [pair], lambda one, bit: 1)[pair]
                        mean = told.mean(*pair, counts)
                        self.assertEqual((mean.number, mean.over), (wanted.numerator, wanted.denominator))

    def test_the_reader_at_one_reads_the_text(self):
        # 0 is likely at the root and 1 is likely at node 1, so that it matters who reads what.
        told = delays(Code([1, 2, 2]))
        self.assertEqual(str(told.mean("", "1", [2, 1, 1])), "2")
        self.assertEqual([str(told.mean("", "1", [8, 1, 1])), str(told.mean("1", "", [8, 1, 1]))], ["4/3", "5/3"])
        self.assertEqual(str(told.mean("1", "", [1, 1, 98])), "9850/99")

    def test_it_lies_between_fewest_and_greatest(self):
        for code in codes():
            told = delays(code)
            for one, other in pairs_of(code):
                mean = told.mean(one, other, [1] * code.size)
                if mean is not None:
                    self.assertFalse(mean.is_less(told.fewest(one, other)))
                    greatest = told.greatest(one, other)
                    if greatest is not None:
                        self.assertFalse(Ratio(greatest).is_less(mean))

    def test_never_with_a_chance_above_0(self):
        # Words of one length: from unlike depths never; from one depth at the end of the word.
        told = delays(Code([3] * 8))
        self.assertIsNone(told.mean("", "0", [1] * 8))
        self.assertEqual(str(told.mean("01", "11", [1] * 8)), "1")
        self.assertEqual(str(told.mean("0", "1", [5] * 8)), "2")

    def test_more_signs_than_are_allowed(self):
        # With up to eight signs two readers that may be apart for ever are so for sure. With nine ones
        # there are nodes from where some strings make them one, and others part them for ever.
        kinds = set()
        with mock.patch("leastjoined.delays.MOST_SIGNS_DRAWN", 26):
            for words in never_set(9):
                told = delays(of_words(words))
                for pair in pairs_of(told.code):
                    mean = told.mean(*pair, [3, 1, 4, 1, 5, 9, 2, 6, 5])
                    kinds.add((told.fewest(*pair) is None, mean is None))
                    self.assertEqual(mean is None, may_stay(words, pair))
                    if mean is not None and pair[0] == "":
                        wanted = means(words, [3, 1, 4, 1, 5, 9, 2, 6, 5], [pair], lambda one, bit: 1)[pair]
                        self.assertEqual((mean.number, mean.over), (wanted.numerator, wanted.denominator))
        self.assertEqual(kinds, {(False, False), (False, True), (True, True)})


class NeverLostTest(unittest.TestCase):
    def test_what_leads_to_what_is_lost_is_lost(self):
        self.assertEqual(never_lost({"0": ["1"], "1": ["10", ""], "10": ["10"], "11": ["", "11"]}),
                         {"": True, "11": True})
        self.assertEqual(never_lost({"1": ["1", ""]}), {"": True, "1": True})
        self.assertEqual(never_lost({}), {"": True})


class WrongTest(unittest.TestCase):
    def setUp(self):
        self.code = Code([1, 2, 3, 3])
        self.told = delays(self.code)

    def test_nodes(self):
        for value in ["0", "10", "111", "2", "00", " ", *[value for value in any_values() if value != ""]]:
            for call in (self.told.fewest, self.told.greatest, self.told.apart_by):
                self.assertEqual(fields(raised(call, value, "1")), ("BadNode", value))
                self.assertEqual(fields(raised(call, "11", value)), ("BadNode", value))
                self.assertEqual(fields(raised(call, value, value)), ("BadNode", value))
            self.assertEqual(fields(raised(self.told.mean, value, "1", [1] * 4)), ("BadNode", value))
            self.assertEqual(fields(raised(self.told.mean, "1", value, [1] * 4)), ("BadNode", value))

    def test_the_first_node_is_due_first(self):
        for call in (self.told.fewest, self.told.greatest, self.told.apart_by):
            self.assertEqual(fields(raised(call, "0", "10")), ("BadNode", "0"))
        self.assertEqual(fields(raised(self.told.mean, "0", "10", [])), ("BadNode", "0"))

    def test_nodes_are_due_ahead_of_counts(self):
        for counts in ([], [0] * 4, [-1, 2, 3, 4], [1] * 27):
            self.assertEqual(fields(raised(self.told.mean, "", "x", counts)), ("BadNode", "x"))

    def test_counts(self):
        for pair in (("", "1"), ("11", ""), ("", "")):
            for many in (0, 1, 27, 40):
                self.assertEqual(fields(raised(self.told.mean, *pair, [0] * many)), ("TooMany", "signs", many, 26))
            for many in (2, 3, 5, 26):
                self.assertEqual(fields(raised(self.told.mean, *pair, [0] * many)), ("OtherSize", many, 4))
            for value in [*no_integers(), -1, -10 ** 39]:
                self.assertEqual(fields(raised(self.told.mean, *pair, [0, 1, value, value])), ("BadCount", 2))
                self.assertEqual(fields(raised(self.told.mean, *pair, [0, value])), ("BadCount", 1))

    def test_counts_of_0(self):
        for pair in (("", "1"), ("11", ""), ("1", "1")):
            for at in range(4):
                counts = [1] * at + [0] + [5, 0, 5][:3 - at]
                self.assertEqual(fields(raised(self.told.mean, *pair, counts)), ("BadCount", at))

    def test_more_than_eight_signs(self):
        for many in (9, 10, 26):
            code = split_code(many, 3)
            node = nodes_of_words(code.words)[1]
            told = delays(code)
            for pair in (("", node), (node, ""), ("", "")):
                self.assertEqual(fields(raised(told.mean, *pair, [1] * many)), ("TooMany", "signs", many, 8))
                self.assertEqual(
                    fields(raised(told.mean, *pair, [1] * (many - 1) + [0])), ("BadCount", many - 1))
                self.assertEqual(fields(raised(told.mean, *pair, [0] * (many - 1))), ("OtherSize", many - 1, many))
        told = delays(Code([3] * 8))
        self.assertEqual(told.mean("", "", [1] * 8), Ratio(0))

    def test_lists_and_tuples(self):
        for counts in ([3, 1, 4, 1], [1, 1, 1, GREAT]):
            self.assertEqual(self.told.mean("", "11", counts), self.told.mean("", "11", tuple(counts)))
            self.assertEqual(self.told.mean("", "11", counts), delays(Code((1, 2, 3, 3))).mean("", "11", counts))


if __name__ == "__main__":
    unittest.main()
