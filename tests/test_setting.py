import itertools
import random
import unittest

from leastjoined.codes import Code
from leastjoined.readers import follow
from leastjoined.setting import Never, Sets, is_never, is_setting, setting
from leastjoined.soonest import Soonest
from machines import (
    BOTH_WAYS, goal, mixed, nodes_of_words, of_words, shortest_by_trial, split_code, strings, trees, twice,
)
from test_readers import wrong_bits
from values import any_values, deep, fields, raised

DEEP = Code([*range(1, 26), 25])


def small_codes():
    """Codes of two to nine signs with any words."""
    told = [mixed(words, seed) for many in range(2, 7) for seed, words in enumerate(trees(many))]
    told += [split_code(many, seed, deep) for many in (7, 8, 9) for seed in range(15) for deep in (False, True)]
    told += [Code([1, 1]), Code([2] * 4), Code([3] * 8), of_words(BOTH_WAYS)]
    told += [of_words(twice(words)) for many in (2, 3) for words in trees(many)]
    return told


def never_by_trial(words):
    """The pairs of nodes that no string makes one, ascending: bit by bit, over all pairs that are reached."""
    never = []
    for pair in itertools.combinations(sorted(nodes_of_words(words)), 2):
        seen, left = {pair}, [pair]
        while left:
            one, other = left.pop()
            for bit in "01":
                more = (goal(words, one, bit), goal(words, other, bit))
                if more not in seen:
                    seen.add(more)
                    left.append(more)
        if all(one != other for one, other in seen):
            never.append(pair)
    return never


class IsSettingTest(unittest.TestCase):
    def test_against_readers_at_all_nodes(self):
        for code in small_codes():
            for size in range(5):
                for bits in strings(size):
                    ends = {follow(code, node, bits) for node in nodes_of_words(code.words)}
                    self.assertIs(is_setting(code, bits), len(ends) == 1)

    def test_one_node(self):
        for words in (None, ["1", "0"]):
            for bits in ("", "0", "1", "0110"):
                self.assertIs(is_setting(Code([1, 1], words), bits), True)

    def test_more_bits_behind_keep_it_right(self):
        code = Code([1, 2, 3, 3])
        self.assertEqual([is_setting(code, bits) for bits in ("", "0", "1", "11", "10", "1101")],
                         [False, True, False, False, True, True])

    def test_many_bits(self):
        self.assertIs(is_setting(Code([2] * 4), "01" * 100000), False)
        self.assertIs(is_setting(DEEP, "1" * 200000), False)
        self.assertIs(is_setting(DEEP, "1" * 200000 + "0"), True)

    def test_bad_bits(self):
        for code in (Code([1, 1]), Code([1, 2, 2]), Code([2] * 4)):
            for bits, index in wrong_bits():
                self.assertEqual(fields(raised(is_setting, code, bits)), ("BadBits", index), bits)


class SettingTest(unittest.TestCase):
    def test_against_all_sets_of_nodes(self):
        sets = never = 0
        for code in small_codes():
            told = setting(code)
            size = shortest_by_trial(code.words)
            self.assertEqual(told.code, code)
            if size is None:
                never += 1
                self.assertIsInstance(told, Never)
                self.assertIs(is_never(told), True)
            else:
                sets += 1
                self.assertIsInstance(told, Sets)
                self.assertEqual(len(told.bits), size, code.words)
                self.assertIs(is_setting(code, told.bits), True)
        self.assertGreater(sets, 100)
        self.assertGreater(never, 8)

    def test_no_shorter_string_sets_right(self):
        for code in small_codes()[:60]:
            told = setting(code)
            if isinstance(told, Sets):
                for size in range(len(told.bits)):
                    self.assertFalse(any(is_setting(code, bits) for bits in strings(size)))

    def test_one_node(self):
        for words in (["0", "1"], ["1", "0"]):
            told = setting(Code([1, 1], words))
            self.assertIsInstance(told, Sets)
            self.assertEqual(told.bits, "")

    def test_words_of_one_length(self):
        for size in (2, 3, 4):
            for shuffled in range(3):
                told = setting(mixed(strings(size), shuffled))
                self.assertIsInstance(told, Never)
                self.assertIs(is_never(told), True)

    def test_codes_put_together_twice(self):
        for words in trees(3) + trees(4) + trees(5):
            code = of_words(twice(words))
            told = setting(code)
            self.assertIsInstance(told, Never)
            self.assertIs(is_never(told), True)

    def test_no_word_ends_another_one(self):
        for shuffled in range(3):
            told = setting(mixed(BOTH_WAYS, shuffled))
            self.assertIsInstance(told, Never)
            self.assertIs(is_never(told), True)

    def test_pairs_of_never_become_one_in_no_way(self):
        for code in small_codes():
            told = setting(code)
            if isinstance(told, Never):
                self.assertEqual(sorted(told.pairs), list(told.pairs))
                self.assertLessEqual(set(told.pairs), set(never_by_trial(code.words)))

    def test_thirteen_signs(self):
        for seed in range(10):
            for deep in (False, True):
                code = split_code(13, seed, deep)
                told = setting(code)
                size = shortest_by_trial(code.words)
                if size is None:
                    self.assertIs(is_never(told), True)
                else:
                    self.assertEqual((len(told.bits), is_setting(code, told.bits)), (size, True))
        self.assertEqual(setting(Code([*range(1, 13), 12])).bits, "0")

    def test_more_than_thirteen_signs(self):
        kinds = set()
        codes = [split_code(many, seed) for many in range(14, 27) for seed in range(4)]
        codes += [Code([4] * 16), DEEP, *[of_words(twice(words)) for words in trees(4) + trees(5)]]
        codes += [of_words(tuple("0" + word for word in BOTH_WAYS) + tuple("1" + word for word in BOTH_WAYS))]
        for code in codes:
            never = never_by_trial(code.words)
            kinds.add((code.size, bool(never)))
            if never:
                told = setting(code)
                self.assertIsInstance(told, Never)
                self.assertIs(is_never(told), True)
            else:
                self.assertEqual(fields(raised(setting, code)), ("TooMany", "signs", code.size, 13))
        self.assertTrue({(16, True), (25, True), (14, False), (26, False)} <= kinds)

    def test_equal_calls(self):
        for code in small_codes()[::5]:
            again = of_words(code.words)
            self.assertEqual(vars(setting(code)), vars(setting(again)))


class IsNeverTest(unittest.TestCase):
    def setUp(self):
        self.four = Code([2] * 4)
        self.pairs = [("", "0"), ("", "1")]

    def says(self, wanted, pairs, code=None):
        self.assertIs(is_never(Never(code or self.four, pairs)), wanted, pairs)

    def test_the_document(self):
        self.says(True, self.pairs)

    def test_lists_and_tuples(self):
        for outer, inner in itertools.product((list, tuple), repeat=2):
            never = Never(self.four, outer(inner(pair) for pair in self.pairs))
            self.assertEqual(never.pairs, (("", "0"), ("", "1")))
            self.assertIs(is_never(never), True)

    def test_pairs_left_out(self):
        # 0 leads from each of both to the other one or to itself: 00, 01, 10 and 11 are words.
        self.says(False, [("", "0")])
        self.says(False, [("", "1")])
        for code in small_codes():
            told = setting(code)
            if isinstance(told, Never):
                for at in range(len(told.pairs)):
                    rest = told.pairs[:at] + told.pairs[at + 1:]
                    self.says(self.is_closed(code, rest), rest, code)

    def is_closed(self, code, pairs):
        led = [tuple(sorted(goal(code.words, node, bit) for node in pair)) for pair in pairs for bit in "01"]
        return bool(pairs) and all(pair in pairs for pair in led)

    def test_one_pair_more(self):
        self.says(False, [*self.pairs, ("0", "1")])
        for code in small_codes():
            told = setting(code)
            if isinstance(told, Never):
                for pair in itertools.combinations(sorted(nodes_of_words(code.words)), 2):
                    more = (*told.pairs, pair)
                    self.says(pair in never_by_trial(code.words), more, code)

    def test_pairs_in_any_order_and_twice(self):
        self.says(True, [("", "1"), ("", "0")])
        self.says(True, [("", "1"), ("", "0"), ("", "1")])

    def test_pairs_turned_about(self):
        self.says(False, [("0", ""), ("", "1")])
        self.says(False, [("0", ""), ("1", "")])
        self.says(False, [("", "0"), ("", "1"), ("1", "")])

    def test_like_nodes(self):
        self.says(False, [("", "")])
        self.says(False, [*self.pairs, ("0", "0")])

    def test_values_that_are_no_nodes(self):
        for value in ["00", "2", "01", "11", " ", *[value for value in any_values() if value != ""]]:
            self.says(False, [*self.pairs, ("", value)])
            self.says(False, [(value, "1"), *self.pairs])
            self.says(False, [("", value)])

    def test_values_that_are_no_pairs(self):
        others = ["01", ("",), ("", "0", "1"), [""], {"": "0"}, {"": "0", "0": ""}, ((), ()), deep(10)]
        for value in [*others, *any_values()]:
            self.says(False, [*self.pairs, value])
            self.says(False, [value])

    def test_values_that_are_no_lists_of_pairs(self):
        for value in [*any_values(), {("", "0"): True, ("", "1"): True}, "", "01", self.four, deep(10)]:
            self.says(False, value)

    def test_values_that_are_no_codes(self):
        for value in any_values():
            if not isinstance(value, Code):
                self.assertIs(is_never(Never(value, self.pairs)), False)

    def test_no_pairs_at_all(self):
        for code in (self.four, Code([1, 1]), Code([1, 2, 2])):
            self.says(False, [], code)
            self.says(False, (), code)

    def test_pairs_of_another_code(self):
        for code in (Code([1, 1]), Code([1, 2, 2]), Code([3] * 8), Code([1, 2, 3, 3])):
            self.says(False, self.pairs, code)

    def test_by_all_sets_of_pairs(self):
        for code in (self.four, Code([1, 2, 2]), Code([1, 2, 3, 3]), of_words(twice(trees(2)[0])), Code([2, 2, 2, 3, 3])):
            pairs = list(itertools.combinations(sorted(nodes_of_words(code.words)), 2))
            for many in range(len(pairs) + 1):
                for some in itertools.combinations(pairs, many):
                    self.says(self.is_closed(code, some), some, code)

    def test_pairs_are_kept_as_copies(self):
        pairs = [["", "0"], ["", "1"]]
        never = Never(self.four, pairs)
        pairs[0][1] = "5"
        pairs.append(3)
        self.assertEqual((never.pairs, never.code), ((("", "0"), ("", "1")), self.four))

    def test_results_keep_copies_with_lists_as_tuples(self):
        bits = [["0"], 1]
        told = [Sets(self.four, bits), Soonest(self.four, bits), Never(self.four, bits)]
        bits[0].append("1")
        self.assertEqual([told[0].bits, told[1].bits, told[2].pairs], [(("0",), 1)] * 3)
        self.assertEqual([one.code for one in told], [self.four] * 3)
        told = [Sets([1, [2]], ""), Soonest([1, [2]], ""), Never([1, [2]], "")]
        self.assertEqual([one.code for one in told], [(1, (2,))] * 3)


class ChanceTest(unittest.TestCase):
    def test_a_string_that_sets_right_makes_all_readers_one(self):
        chance = random.Random(17)
        for seed in range(40):
            code = split_code(chance.randint(2, 13), seed)
            told = setting(code)
            if isinstance(told, Sets):
                self.assertEqual(len({follow(code, node, told.bits) for node in nodes_of_words(code.words)}), 1)


if __name__ == "__main__":
    unittest.main()
