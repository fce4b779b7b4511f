import itertools
import random
import unittest

from leastjoined.codes import Code
from leastjoined.readers import Reading, follow, read, spelled
from machines import goal, mixed, nodes_of_words, split_code, strings, trees, walk
from values import any_values, fields, no_integers, raised

DEEP = Code([*range(1, 26), 25])
FLAT = Code([4] * 16)


def some_codes():
    """Codes of two to 26 signs, canonical ones and ones with told words, deep and flat ones."""
    codes = [Code([1, 1]), Code([1, 1], ["1", "0"]), Code([1, 2, 3, 3]), Code([2, 2, 2, 2]), DEEP, FLAT]
    codes += [mixed(words, seed) for many in (3, 4, 5) for seed, words in enumerate(trees(many))]
    codes += [split_code(many, many, deep) for many in range(2, 27) for deep in (False, True)]
    return codes


def no_nodes(code):
    """Values that are no nodes of a code."""
    words = [word for word in code.words]
    longer = [word + bit for word in code.words for bit in "01"]
    other = ["2", "a", " ", "0 ", "-", "00" * 40, "\n", "0\n", "01a", None, True, False, 0, 1, 10, (), ("",), [], [""]]
    others = [value for value in any_values() if value != "" and not (isinstance(value, str) and is_node(code, value))]
    return words + longer + other + others + [{"": ""}, code, ("0", "1")]


def is_node(code, value):
    return value in nodes_of_words(code.words)


def wrong_bits():
    """Values that are no strings of bits, with the index of the first sign that is none of these."""
    places = [("2", 0), ("0a", 1), ("01 ", 2), ("0120", 2), ("01" * 500 + "2" + "2", 1000), ("x01", 0), ("\n", 0)]
    places += [("01\n", 2), ("0,1", 1), ("-1", 0), ("0O", 1), ("1" * 99 + "l", 99), ("\u0661", 0), ("0\u0660", 1)]
    others = [None, True, False, 0, 1, 10, -1, ["0"], ("0", "1"), ["0", "1"], [], (), {}, {"0": 1}, Code([1, 1])]
    others += [b"01"]
    others += [value for value in any_values() if not isinstance(value, str)]
    return places + [(value, 0) for value in others]


class FollowTest(unittest.TestCase):
    def test_each_node_and_all_short_bits(self):
        for code in some_codes()[:30]:
            for node in nodes_of_words(code.words):
                for size in range(6):
                    for bits in strings(size):
                        self.assertEqual(follow(code, node, bits), goal(code.words, node, bits), (node, bits))

    def test_each_node_and_long_bits(self):
        chance = random.Random(14)
        for code in some_codes():
            for node in nodes_of_words(code.words):
                bits = "".join(chance.choice("01") for _ in range(chance.choice([20, 60])))
                self.assertEqual(follow(code, node, bits), goal(code.words, node, bits), (code.words, node, bits))

    def test_bits_one_behind_the_other(self):
        code = split_code(14, 5)
        for node in nodes_of_words(code.words):
            for one, other in itertools.product(["", "0", "0110", "111"], repeat=2):
                self.assertEqual(follow(code, follow(code, node, one), other), follow(code, node, one + other))

    def test_a_bit_leads_to_the_longer_node_or_to_the_root(self):
        code = Code([1, 2, 3, 3])
        self.assertEqual([follow(code, node, "0") for node in ("", "1", "11")], ["", "", ""])
        self.assertEqual([follow(code, node, "1") for node in ("", "1", "11")], ["1", "11", ""])
        self.assertEqual([follow(code, node, "") for node in ("", "1", "11")], ["", "1", "11"])

    def test_many_bits(self):
        # There is no limit for follow.
        self.assertEqual(follow(DEEP, "", "1" * 1000001), "1")
        self.assertEqual(follow(Code([1, 1]), "", "10" * 100001), "")

    def test_bad_nodes(self):
        for code in [Code([1, 1]), Code([1, 2, 2]), Code([2, 1, 3, 3]), split_code(9, 1), DEEP]:
            for node in no_nodes(code):
                self.assertEqual(fields(raised(follow, code, node, "01")), ("BadNode", node))

    def test_bad_bits(self):
        for bits, index in wrong_bits():
            for code, node in ((Code([1, 1]), ""), (Code([1, 2, 3, 3]), "11"), (FLAT, "010")):
                self.assertEqual(fields(raised(follow, code, node, bits)), ("BadBits", index), bits)

    def test_the_node_is_due_first(self):
        self.assertEqual(fields(raised(follow, Code([1, 2, 2]), "0", "2")), ("BadNode", "0"))
        self.assertEqual(fields(raised(follow, Code([1, 2, 2]), None, None)), ("BadNode", None))


class SpelledTest(unittest.TestCase):
    def test_words_one_behind_the_other(self):
        chance = random.Random(3)
        for code in some_codes():
            for size in (0, 1, 2, 30):
                signs = [chance.randrange(code.size) for _ in range(size)]
                text = "".join(code.words[sign] for sign in signs)
                self.assertEqual(spelled(code, signs), text)
                self.assertEqual(spelled(code, tuple(signs)), text)

    def test_what_is_spelled_is_read(self):
        chance = random.Random(4)
        for code in some_codes():
            signs = [chance.randrange(code.size) for _ in range(200)]
            told = read(code, spelled(code, signs))
            self.assertEqual((told.signs, told.node), (tuple(signs), ""))
            self.assertEqual(told.ends, tuple(itertools.accumulate(code.lengths[sign] for sign in signs)))

    def test_bad_signs(self):
        code = Code([1, 2, 3, 3])
        for value in [*no_integers(), -1, 4, 5, 10 ** 39, -10 ** 39]:
            for ahead in (0, 1, 3):
                signs = [0, 1, 3][:ahead] + [value, 2, value]
                self.assertEqual(fields(raised(spelled, code, signs)), ("BadSign", ahead), value)
        self.assertEqual(fields(raised(spelled, Code([1, 1]), [1, 0, 2])), ("BadSign", 2))
        self.assertEqual(spelled(code, [0, 3, 2, 1]), "011111010")

    def test_how_many(self):
        code = Code([1, 2, 3, 3])
        self.assertEqual(spelled(code, [1] * 10000), "10" * 10000)
        self.assertEqual(fields(raised(spelled, code, [1] * 10001)), ("TooMany", "signs", 10001, 10000))
        self.assertEqual(fields(raised(spelled, code, (3,) * 25000)), ("TooMany", "signs", 25000, 10000))

    def test_a_wrong_sign_is_due_ahead_of_too_many(self):
        code = Code([1, 2, 3, 3])
        for place in (0, 9999, 10000):
            signs = [1] * 10001
            signs[place] = 4
            self.assertEqual(fields(raised(spelled, code, signs)), ("BadSign", place))
        self.assertEqual(fields(raised(spelled, code, [0] * 9999 + [True])), ("BadSign", 9999))

    def test_nothing_that_is_passed_is_changed(self):
        signs = [0, 1, 2]
        spelled(Code([1, 2, 2]), signs)
        self.assertEqual(signs, [0, 1, 2])


class ReadTest(unittest.TestCase):
    def agrees(self, code, node, bits):
        told = read(code, bits, node)
        self.assertIsInstance(told, Reading)
        at, signs, ends = walk(code.words, node, bits)
        self.assertEqual((told.signs, told.ends, told.node), (signs, ends, at), (code.words, node, bits))
        self.assertEqual((type(told.signs), type(told.ends)), (tuple, tuple))

    def test_each_node_and_all_short_bits(self):
        for code in some_codes()[:30]:
            for node in nodes_of_words(code.words):
                for size in range(6):
                    for bits in strings(size):
                        self.agrees(code, node, bits)

    def test_each_node_and_long_bits(self):
        chance = random.Random(15)
        for code in some_codes():
            for node in nodes_of_words(code.words):
                self.agrees(code, node, "".join(chance.choice("01") for _ in range(80)))

    def test_the_root_is_the_node_that_is_left_out(self):
        code = Code([1, 2, 3, 3])
        told, other = read(code, "11010"), read(code, "11010", "")
        self.assertEqual((told.signs, told.ends, told.node), ((2, 1), (3, 5), ""))
        self.assertEqual((other.signs, other.ends, other.node), ((2, 1), (3, 5), ""))

    def test_no_bits(self):
        code = Code([1, 2, 3, 3])
        for node in ("", "1", "11"):
            told = read(code, "", node)
            self.assertEqual((told.signs, told.ends, told.node), ((), (), node))

    def test_the_sign_that_a_reader_stood_in_is_read(self):
        told = read(Code([1, 2, 3, 3]), "1", "11")
        self.assertEqual((told.signs, told.ends, told.node), ((3,), (1,), ""))

    def test_bad_nodes(self):
        for code in [Code([1, 1]), Code([1, 2, 2]), split_code(9, 1)]:
            for node in no_nodes(code):
                self.assertEqual(fields(raised(read, code, "01", node)), ("BadNode", node))

    def test_bad_bits(self):
        for bits, index in wrong_bits():
            self.assertEqual(fields(raised(read, Code([1, 2, 3, 3]), bits)), ("BadBits", index), bits)
            self.assertEqual(fields(raised(read, Code([1, 2, 3, 3]), bits, "1")), ("BadBits", index), bits)

    def test_how_many(self):
        told = read(Code([1, 1]), "01" * 50000)
        self.assertEqual((told.signs, told.ends), ((0, 1) * 50000, tuple(range(1, 100001))))
        self.assertEqual(
            fields(raised(read, Code([1, 1]), "0" * 100001)), ("TooMany", "bits", 100001, 100000))
        self.assertEqual(
            fields(raised(read, Code([1, 2, 2]), "01" * 90000, "1")), ("TooMany", "bits", 180000, 100000))

    def test_what_is_due_first(self):
        code = Code([1, 2, 2])
        long = "0" * 100001
        self.assertEqual(fields(raised(read, code, "2" + long, "0")), ("BadNode", "0"))
        self.assertEqual(fields(raised(read, code, long, "11")), ("BadNode", "11"))
        self.assertEqual(fields(raised(read, code, long + "2", "1")), ("BadBits", 100001))
        self.assertEqual(fields(raised(read, code, "1" + "x" + long)), ("BadBits", 1))
        self.assertEqual(fields(raised(read, code, None, 7)), ("BadNode", 7))

    def test_equal_calls(self):
        told, other = read(Code([1, 2, 2]), "0101101"), read(Code((1, 2, 2)), "0101101")
        self.assertEqual(vars(told), vars(other))

    def test_a_reading_keeps_copies(self):
        signs, ends = [1, 0], [2, 3]
        told = Reading(signs, ends, "1")
        signs.append(5)
        ends.clear()
        self.assertEqual((told.signs, told.ends, told.node), ((1, 0), (2, 3), "1"))
        self.assertEqual(Reading([], [], [["1"]]).node, (("1",),))


if __name__ == "__main__":
    unittest.main()
