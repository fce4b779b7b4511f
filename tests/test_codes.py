import itertools
import unittest
from fractions import Fraction
from math import factorial

from leastjoined.codes import Code, all_codes, check_counts, cost, number_of_codes
from leastjoined.ratios import Ratio
from values import GREAT, any_values, fields, no_integers, raised

STEEP = [*range(1, 26), 25]


def full_lengths(many, longest):
    """By trial: the tuples of lengths up to the longest, ascending, whose widths sum to 1."""
    return [
        lengths for lengths in itertools.product(range(1, longest + 1), repeat=many)
        if sum(Fraction(1, 2 ** length) for length in lengths) == 1
    ]


def leaves_by_level(ends, left):
    """All tuples that tell, from this level on, how many words end at each one."""
    if ends == 0 and left == 0:
        yield ()
    elif 0 < ends <= left:
        for done in range(ends + 1):
            for rest in leaves_by_level(2 * (ends - done), left - done):
                yield (done, *rest)


def counted(many):
    """The number of lists of lengths, added up over how many words end at each level."""
    total = 0
    for levels in leaves_by_level(1, many):
        ways = factorial(many)
        for done in levels:
            ways //= factorial(done)
        total += ways
    return total


class CheckCountsTest(unittest.TestCase):
    def test_good_counts(self):
        for counts in ([0, 0], [1, 2, 3], [GREAT] * 26, (5, 0), [0] * 26, (GREAT, 0, 1)):
            before = tuple(counts)
            self.assertIsNone(check_counts(counts))
            self.assertEqual(tuple(counts), before)

    def test_how_many(self):
        for many in (0, 1, 27, 28, 100):
            self.assertEqual(fields(raised(check_counts, [1] * many)), ("TooMany", "signs", many, 26))
            self.assertEqual(fields(raised(check_counts, (None,) * many)), ("TooMany", "signs", many, 26))
        for many in (2, 3, 25, 26):
            self.assertIsNone(raised(check_counts, [1] * many))

    def test_bad_counts(self):
        for value in [-1, -GREAT, *no_integers()]:
            self.assertEqual(fields(raised(check_counts, [value, 1])), ("BadCount", 0))
            self.assertEqual(fields(raised(check_counts, [0, 1, value])), ("BadCount", 2))
            self.assertEqual(fields(raised(check_counts, [0] * 25 + [value])), ("BadCount", 25))
            self.assertEqual(fields(raised(check_counts, (0, value, 3, value, -1))), ("BadCount", 1))


class CodeTest(unittest.TestCase):
    def test_canonical_words(self):
        self.assertEqual(Code([1, 1]).words, ("0", "1"))
        self.assertEqual(Code([2, 2, 2, 2]).words, ("00", "01", "10", "11"))
        self.assertEqual(Code([3, 3, 2, 1]).words, ("110", "111", "10", "0"))
        self.assertEqual(Code([3, 1, 3, 2]).words, ("110", "0", "111", "10"))
        self.assertEqual(Code([2, 3, 2, 3, 2]).words, ("00", "110", "01", "111", "10"))
        self.assertEqual(Code([3, 3, 3, 3, 1]).words, ("100", "101", "110", "111", "0"))

    def test_canonical_words_by_their_rule(self):
        for code in [*all_codes(5), Code(STEEP), Code([5] * 22 + [4] * 3 + [3])]:
            order = sorted(range(code.size), key=lambda sign: (code.lengths[sign], sign))
            words = [code.words[sign] for sign in order]
            self.assertEqual(words[0], "0" * code.lengths[order[0]])
            for one, other in zip(words, words[1:]):
                more = bin(int(one, 2) + 1)[2:].zfill(len(one))
                self.assertEqual(other, more.ljust(len(other), "0"))
            self.assertEqual([len(word) for word in code.words], list(code.lengths))

    def test_attributes(self):
        code = Code([2, 1, 3, 3])
        self.assertEqual((code.lengths, code.size, code.longest), ((2, 1, 3, 3), 4, 3))
        self.assertEqual((Code(STEEP).size, Code(STEEP).longest), (26, 25))
        self.assertEqual(Code(STEEP).words, tuple("1" * at + "0" for at in range(25)) + ("1" * 25,))
        for made in (Code((1, 2, 2)), Code([1, 2, 2], ["1", "01", "00"]), Code((1, 2, 2), ("1", "01", "00"))):
            self.assertIs(made.lengths.__class__, tuple)
            self.assertIs(made.words.__class__, tuple)

    def test_given_words(self):
        code = Code([2, 1, 2], ["01", "1", "00"])
        self.assertEqual((code.words, code.lengths, code.size, code.longest), (("01", "1", "00"), (2, 1, 2), 3, 2))
        self.assertEqual(Code([2, 1, 2], None).words, ("10", "0", "11"))
        turned = ["".join("10"[int(bit)] for bit in word) for word in Code(STEEP).words]
        self.assertEqual(Code(STEEP, turned).words, tuple(turned))

    def test_how_many(self):
        for many in (0, 1, 27, 40):
            self.assertEqual(fields(raised(Code, [5] * many)), ("TooMany", "signs", many, 26))
            self.assertEqual(fields(raised(Code, (None,) * many, [None] * many)), ("TooMany", "signs", many, 26))
        self.assertIsNone(raised(Code, [1, 1]))
        self.assertIsNone(raised(Code, STEEP))

    def test_bad_lengths(self):
        for value in [0, -1, 26, 27, GREAT, -GREAT, *no_integers()]:
            self.assertEqual(fields(raised(Code, [value, 1])), ("BadLength", 0))
            self.assertEqual(fields(raised(Code, [1, 2, value, value])), ("BadLength", 2))
            self.assertEqual(fields(raised(Code, (1, value, 0))), ("BadLength", 1))
            self.assertEqual(fields(raised(Code, [*STEEP[:25], value])), ("BadLength", 25))

    def test_not_full(self):
        for lengths in ([1, 2], [1, 1, 1], [2, 2, 2], [1, 25], [25] * 26, [1] * 26, [*range(1, 26)], (1, 2, 3)):
            self.assertEqual(fields(raised(Code, lengths)), ("NotFull",))
        self.assertEqual(fields(raised(Code, [*range(1, 25), 25, 25, 25][1:])), ("NotFull",))
        self.assertEqual(fields(raised(Code, [1, 2], ["x", None])), ("NotFull",))

    def test_bad_words(self):
        wrong = ["", "0", "000", "02", "0 ", " 0", "0\n", "ab", "\u0660\u0661", "\uff10\uff11", 0, 10, -1, GREAT]
        for value in [*wrong, *[some for some in any_values() if some != "00"]]:
            self.assertEqual(fields(raised(Code, [2, 2, 1], [value, "01", "1"])), ("BadWord", 0))
            self.assertEqual(fields(raised(Code, [2, 2, 1], ("00", value, "1"))), ("BadWord", 1))
            self.assertEqual(fields(raised(Code, [1, 2, 2], ["1", value, value])), ("BadWord", 1))
        self.assertEqual(fields(raised(Code, [1, 2, 2], ["00", "1", "01"])), ("BadWord", 0))

    def test_begins(self):
        self.assertEqual(fields(raised(Code, [1, 1], ["0", "0"])), ("Begins", 0, 1))
        self.assertEqual(fields(raised(Code, [1, 2, 2], ["0", "00", "11"])), ("Begins", 0, 1))
        self.assertEqual(fields(raised(Code, [2, 2, 1], ["10", "00", "0"])), ("Begins", 1, 2))
        self.assertEqual(fields(raised(Code, [2, 1, 2], ("10", "0", "10"))), ("Begins", 0, 2))
        self.assertEqual(fields(raised(Code, [2, 2, 2, 2], ["11", "00", "00", "11"])), ("Begins", 0, 3))
        self.assertEqual(fields(raised(Code, [2, 2, 2, 2], ["01", "00", "00", "00"])), ("Begins", 1, 2))
        words = list(Code(STEEP).words)
        words[25] = words[24]
        self.assertEqual(fields(raised(Code, STEEP, words)), ("Begins", 24, 25))

    def test_order_of_errors(self):
        self.assertEqual(fields(raised(Code, [0], ["x"])), ("TooMany", "signs", 1, 26))
        self.assertEqual(fields(raised(Code, [1, 1, 1, True], ["x"] * 4)), ("BadLength", 3))
        self.assertEqual(fields(raised(Code, [1, 1, 1], ["x", "0", "0"])), ("NotFull",))
        self.assertEqual(fields(raised(Code, [2, 2, 1], ["00", "00", "x"])), ("BadWord", 2))

    def test_equal(self):
        self.assertIs(Code([1, 2, 2]) == Code((1, 2, 2), ("0", "10", "11")), True)
        self.assertIs(Code([1, 2, 2]) != Code((1, 2, 2)), False)
        self.assertIs(Code([1, 2, 2]) == Code([1, 2, 2], ["1", "00", "01"]), False)
        self.assertIs(Code([1, 2, 2]) == Code([1, 2, 2], ["0", "11", "10"]), False)
        self.assertIs(Code([1, 2, 2]) == Code([2, 1, 2]), False)
        self.assertIs(Code([1, 1]) == Code([1, 2, 2]), False)

    def test_equal_to_no_other_kind(self):
        for value in [*any_values(), ("0", "1"), ["0", "1"], (1, 1), "01"]:
            if not isinstance(value, Code):
                self.assertIs(Code([1, 1]) == value, False)
                self.assertIs(value == Code([1, 1]), False)
                self.assertIs(Code([1, 1]) != value, True)

    def test_lists_are_copied_and_not_changed(self):
        lengths, words = [1, 2, 2], ["1", "01", "00"]
        code, canonical = Code(lengths, words), Code(lengths)
        self.assertEqual((lengths, words), ([1, 2, 2], ["1", "01", "00"]))
        lengths[0] = 7
        words.clear()
        self.assertEqual((code.lengths, code.words), ((1, 2, 2), ("1", "01", "00")))
        self.assertEqual((canonical.lengths, canonical.words), ((1, 2, 2), ("0", "10", "11")))
        self.assertIs(code == Code((1, 2, 2), ("1", "01", "00")), True)


class CostTest(unittest.TestCase):
    def test_costs(self):
        self.assertEqual(cost(Code([1, 1]), [0, 0]), 0)
        self.assertEqual(cost(Code([1, 2, 2]), (5, 3, 1)), 13)
        self.assertEqual(cost(Code([2, 2, 1]), [5, 3, 1]), 17)
        self.assertEqual(cost(Code([1, 2, 2], ["1", "01", "00"]), [5, 3, 1]), 13)
        self.assertEqual(cost(Code(STEEP), [GREAT] * 26), GREAT * (25 * 26 // 2 + 25))

    def test_errors(self):
        code = Code([1, 2, 2])
        for many in (0, 1, 27):
            self.assertEqual(fields(raised(cost, code, [True] * many)), ("TooMany", "signs", many, 26))
        for value in [-1, *no_integers()]:
            self.assertEqual(fields(raised(cost, code, [1, 1, value, value])), ("BadCount", 2))
            self.assertEqual(fields(raised(cost, code, (value, -1))), ("BadCount", 0))
        self.assertEqual(fields(raised(cost, code, [1, 1])), ("OtherSize", 2, 3))
        self.assertEqual(fields(raised(cost, code, (1, 1, 1, 1))), ("OtherSize", 4, 3))
        self.assertEqual(fields(raised(cost, Code(STEEP), [1] * 25)), ("OtherSize", 25, 26))

    def test_counts_are_not_changed(self):
        counts = [3, 1, 2]
        self.assertEqual([cost(Code([1, 2, 2]), counts), cost(Code([1, 2, 2]), tuple(counts))], [9, 9])
        self.assertEqual(counts, [3, 1, 2])


class AllCodesTest(unittest.TestCase):
    def test_numbers(self):
        self.assertEqual([number_of_codes(many) for many in range(2, 8)], [1, 3, 13, 75, 525, 4347])
        self.assertEqual(number_of_codes(26), 9783701790333118130867765485)

    def test_numbers_by_levels(self):
        for many in range(2, 18):
            self.assertEqual(number_of_codes(many), counted(many))

    def test_all_codes_by_trial(self):
        for many in range(2, 7):
            self.assertEqual([code.lengths for code in all_codes(many)], full_lengths(many, many))

    def test_all_codes(self):
        for many in range(2, 8):
            codes = all_codes(many)
            self.assertIs(codes.__class__, tuple)
            lengths = [code.lengths for code in codes]
            self.assertEqual(len(lengths), number_of_codes(many))
            self.assertEqual(lengths, sorted(set(lengths)))
            self.assertTrue(all(code.size == many and code == Code(code.lengths) for code in codes))
        self.assertEqual([code.words for code in all_codes(2)], [("0", "1")])
        self.assertEqual(lengths[0], (1, 2, 3, 4, 5, 6, 6))
        self.assertEqual(lengths[-1], (6, 6, 5, 4, 3, 2, 1))

    def test_equal_calls(self):
        self.assertEqual(all_codes(4), all_codes(4))

    def test_bad_sizes(self):
        for value in [-GREAT, -1, 0, 1, 27, 28, GREAT, *no_integers()]:
            error = raised(number_of_codes, value)
            self.assertEqual(fields(error), ("BadSize", value))
            self.assertIs(error.size.__class__, value.__class__)
        for value in [-GREAT, -1, 0, 1, 8, 26, GREAT, *no_integers()]:
            self.assertEqual(fields(raised(all_codes, value)), ("BadSize", value))

    def test_a_size_that_grew_great(self):
        great = Ratio(GREAT)
        for _ in range(8):
            great = great * great
        self.assertTrue(raised(number_of_codes, great.number).size == great.number)
        self.assertTrue(raised(all_codes, -great.number).size == -great.number)


if __name__ == "__main__":
    unittest.main()
