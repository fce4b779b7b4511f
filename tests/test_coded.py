import itertools
import random
import unittest
from math import lcm

from leastjoined.codes import Code
from leastjoined.coded import Coded, coded
from leastjoined.grown import Text
from leastjoined.readers import spelled
from machines import goal, mixed, nodes_of_words, of_words, split_code, trees, turned, twice
from texts import great_text, name_of, short_texts
from values import GREAT, any_values, fields, no_integers, raised

CHANCE = random.Random(16)
DEEP = Code([*range(1, 26), 25])
# Where 01 comes again and again, a second reader goes round rings of two and three nodes, behind some others.
RINGS = [
    ("00", "01", "100", "10100", "101010", "101011", "1011", "11"),
    ("00", "01", "1000", "10010", "10011", "1010", "1011", "11"),
    ("00", "01", "100", "1010", "1011", "11"),
]


def codes():
    """Codes of two to eight signs, some of which set no reader right."""
    told = [Code([1, 1]), Code([1, 1], ["1", "0"]), Code([1, 2, 2]), Code([2, 2, 2, 2]), Code([3] * 8)]
    told += [of_words(trees(5)[3]), mixed(twice(("0", "1")), 1)]
    told += [of_words(words) for words in RINGS]
    told += [split_code(many, seed, deep) for many in range(3, 9) for seed in range(2) for deep in (False, True)]
    return told


class ByTrial:
    """A text that is unfolded, with its bits; readers go over them bit by bit."""

    def __init__(self, code, signs):
        self.words = code.words
        self.signs = signs
        self.bits = "".join(code.words[sign] for sign in signs)
        self.begins = [0, *itertools.accumulate(len(code.words[sign]) for sign in signs)]
        self.places = {place: index for index, place in enumerate(self.begins)}

    def sign_at(self, place):
        index = max(at for at, begin in enumerate(self.begins) if begin <= place)
        return index, place - self.begins[index]

    def right_from(self, place, node):
        for at in range(place, len(self.bits) + 1):
            if node == "" and at in self.places:
                return at
            if at < len(self.bits):
                node = goal(self.words, node, self.bits[at])
        return None

    def flipped(self, place):
        index = self.sign_at(place)[0]
        other = turned(self.bits, place)
        one_node, other_node = goal(self.words, "", self.bits[:place]), goal(self.words, "", other[:place])
        for at in range(place, len(self.bits)):
            one_node, other_node = goal(self.words, one_node, self.bits[at]), goal(self.words, other_node, other[at])
            if one_node == other_node == "":
                return self.places[at + 1] - index, at + 1
        return len(self.signs) - index, None


class ShortTextsTest(unittest.TestCase):
    """Texts by rules within one another, against the unfolded text and its bits."""

    @classmethod
    def setUpClass(cls):
        cls.told = []
        for code in codes():
            for text, signs in short_texts(CHANCE, code.size, 12, 60):
                cls.told.append((coded(code, text), ByTrial(code, signs)))

    def test_kinds(self):
        for one, _ in self.told:
            self.assertIsInstance(one, Coded)

    def test_sizes(self):
        self.assertIn(0, [one.size for one, _ in self.told])
        for one, trial in self.told:
            self.assertEqual(one.size, len(trial.bits))

    def test_each_bit(self):
        for one, trial in self.told:
            self.assertEqual("".join(one.bit(place) for place in range(one.size)), trial.bits)

    def test_parts(self):
        for one, trial in self.told:
            self.assertEqual(one.part(0, one.size), trial.bits)
            for first in range(one.size + 1):
                for size in {0, 1, 2, 7, one.size - first, CHANCE.randint(0, one.size - first)}:
                    if first + size <= one.size:
                        self.assertEqual(one.part(first, size), trial.bits[first:first + size])

    def test_begin(self):
        for one, trial in self.told:
            self.assertEqual([one.begin(index) for index in range(len(trial.signs))], trial.begins[:-1])

    def test_sign_at(self):
        for one, trial in self.told:
            for place in range(one.size):
                self.assertEqual(one.sign_at(place), trial.sign_at(place))

    def test_sign_at_and_begin(self):
        for one, trial in self.told:
            for place in range(one.size):
                index, number = one.sign_at(place)
                self.assertEqual(one.begin(index) + number, place)

    def test_right_from_each_place_at_each_node(self):
        for one, trial in self.told:
            for place in range(one.size + 1):
                for node in nodes_of_words(trial.words):
                    self.assertEqual(one.right_from(place, node), trial.right_from(place, node), (place, node))
                self.assertEqual(one.right_from(place), one.right_from(place, ""))

    def test_flipped_at_each_bit(self):
        for one, trial in self.told:
            for place in range(one.size):
                self.assertEqual(one.flipped(place), trial.flipped(place), (trial.words, trial.signs, place))

    def test_some_are_never_right(self):
        never = [one for one, _ in self.told if one.size and one.right_from(one.size - 1, "") is None]
        self.assertTrue(never)
        self.assertTrue([one for one, _ in self.told if one.size and one.flipped(0)[1] is None])
        self.assertTrue([one for one, _ in self.told if one.size and one.flipped(0)[1] == one.size])


class EndsTest(unittest.TestCase):
    def setUp(self):
        self.told = coded(Code([1, 2, 3, 3]), Text(4, {"A": [(2, 1), (0, 2), (1, 1)]}, "A"))

    def test_the_end(self):
        # 110 0 0 10
        self.assertEqual(self.told.size, 7)
        self.assertEqual([self.told.right_from(7, node) for node in ("", "1", "11")], [7, None, None])
        self.assertEqual([self.told.right_from(6, node) for node in ("", "1", "11")], [7, 7, 7])
        self.assertEqual([self.told.right_from(0, node) for node in ("", "1", "11")], [0, 3, 3])
        self.assertEqual(self.told.right_from(0), 0)
        self.assertEqual((self.told.part(7, 0), self.told.part(0, 0), self.told.part(6, 1)), ("", "", "0"))

    def test_a_sign_ends_where_the_reader_is_right(self):
        # From place 1 on, the reader at the root takes 10 across: 1 10 0 0 10.
        self.assertEqual([self.told.right_from(place) for place in range(8)], [0, 3, 3, 3, 4, 5, 7, 7])

    def test_the_empty_text(self):
        for code in (Code([1, 1]), Code([1, 2, 2]), DEEP):
            told = coded(code, Text(code.size, {"A": [], "B": [("A", 10 ** 30)]}, "B"))
            self.assertEqual((told.size, told.right_from(0), told.part(0, 0)), (0, 0, ""))
            for node in nodes_of_words(code.words):
                self.assertEqual(told.right_from(0, node), 0 if node == "" else None)
            for call in (told.bit, told.begin, told.sign_at, told.flipped):
                self.assertEqual(fields(raised(call, 0)), ("BadPlace", 0))
            self.assertEqual(fields(raised(told.right_from, 1)), ("BadPlace", 1))
            self.assertEqual(fields(raised(told.part, 0, 1)), ("BadPlace", 0))

    def test_the_last_bit(self):
        told = coded(Code([1, 2, 2]), Text(3, {"A": [(2, 2)]}, "A"))
        # 11 11: the last bit turned gives 11 10, the first one 0 11 1.
        self.assertEqual([told.flipped(place) for place in range(4)], [(2, None), (1, 2), (1, None), (1, 4)])


def repeated(code, head, middle, tail, many):
    """A text: a head, a part so many times, and a tail."""
    rules = {"M": middle, "T": [*head, ("M", many), *tail]}
    return Text(code.size, rules, "T")


def random_rule(code, most):
    return [(CHANCE.randrange(code.size), CHANCE.randint(1, 2)) for _ in range(CHANCE.randint(1, most))]


class GreatTextsTest(unittest.TestCase):
    """Texts that can't be unfolded, against texts with fewer pieces."""

    def test_a_part_again_and_again(self):
        for code in codes():
            period = lcm(*range(1, code.size))
            few = 2 * code.size + period
            # Behind so many parts two readers are one, or never become one while the part comes.
            many = few + period * 10 ** 30
            for _ in range(6):
                rules = random_rule(code, 3), random_rule(code, 3), random_rule(code, 3)
                self.compare(code, repeated(code, *rules, few), repeated(code, *rules, many))

    def compare(self, code, few, many):
        one, other = coded(code, few), coded(code, many)
        shift = other.size - one.size
        self.assertGreaterEqual(shift, 10 ** 30)
        head = one.begin(few.size // 3)
        tail = one.begin(2 * few.size // 3)
        ends = [*range(0, head, 1 + head // 20), *range(tail, one.size, 1 + (one.size - tail) // 20), one.size - 1]
        for place in ends:
            there = place if place < head else place + shift
            self.assertEqual(other.bit(there), one.bit(place))
            index, number = one.sign_at(place)
            there_index = index if place < head else index + many.size - few.size
            self.assertEqual(other.sign_at(there), (there_index, number))
            self.assertEqual(other.begin(there_index), one.begin(index) + there - place)
            for node in nodes_of_words(code.words):
                self.same(one.right_from(place, node), other.right_from(there, node), place, head, tail, shift)
            touched, right = one.flipped(place)
            there_touched, there_right = other.flipped(there)
            self.same(right, there_right, place, head, tail, shift)
            if place < head and (right is None or right >= tail):
                self.assertEqual(there_touched, touched + many.size - few.size)
            else:
                self.assertEqual(there_touched, touched)
        self.assertEqual(other.part(other.size - 5, 5), one.part(one.size - 5, 5))

    def same(self, right, there, place, head, tail, shift):
        if right is None:
            self.assertIsNone(there)
        elif place < head and right < tail:
            self.assertEqual(there, right)
        else:
            self.assertEqual(there, right + shift)

    def test_one_sign_again_and_again(self):
        for words in RINGS:
            code = of_words(words)
            period = lcm(*range(1, code.size))
            for few in range(period + 8, period + 14):
                for head, last in itertools.product(range(code.size), repeat=2):
                    rules = [(head, 1)], [(1, 1)], [(last, 2)]
                    one = coded(code, repeated(code, *rules, few))
                    other = coded(code, repeated(code, *rules, few + period * 10 ** 30))
                    for node in nodes_of_words(words):
                        right, there = one.right_from(0, node), other.right_from(0, node)
                        self.same(right, there, 0, 1, 2 * few, other.size - one.size)

    def test_one_sign_so_many_times(self):
        for words in RINGS:
            code = of_words(words)
            for many in range(1, 20):
                for head, last in itertools.product(range(code.size), repeat=2):
                    signs = [head] + [1] * many + [last]
                    one = coded(code, Text(code.size, {"A": [(head, 1), (1, many), (last, 1)]}, "A"))
                    for node in nodes_of_words(words):
                        self.assertEqual(one.right_from(0, node), ByTrial(code, signs).right_from(0, node))

    def test_one_text_by_many_rules(self):
        # A part 2 ** 100 times, by one count and by a hundred names.
        for code in codes():
            part = random_rule(code, 4)
            rules = {name_of(0): part}
            for at in range(100):
                rules[name_of(at + 1)] = [(name_of(at), 1), (name_of(at), 1)] if at % 2 else [(name_of(at), 2)]
            one = coded(code, Text(code.size, rules, name_of(100)))
            other = coded(code, Text(code.size, {"A": part, "B": [("A", 2 ** 100)]}, "B"))
            self.assertEqual(one.size, other.size)
            for _ in range(5):
                place = CHANCE.randrange(2000, one.size)
                self.assertEqual(one.bit(place), other.bit(place))
                self.assertEqual(one.sign_at(place), other.sign_at(place))
                self.assertEqual(one.flipped(place), other.flipped(place))
                self.assertEqual(one.part(place - 2000, 2000), other.part(place - 2000, 2000))
                for node in nodes_of_words(code.words):
                    self.assertEqual(one.right_from(place, node), other.right_from(place, node))

    def test_texts_as_long_as_can_be(self):
        for code in (Code([4] * 16), split_code(26, 2), DEEP, split_code(8, 2, True)):
            text = great_text(CHANCE, code.size)
            told = coded(code, text)
            self.assertEqual(told.size, sum(a * b for a, b in zip(text.tally(), code.lengths)))
            self.assertGreater(told.size, 10 ** 10000)
            for _ in range(2):
                place = CHANCE.randrange(told.size - 2000)
                bits = told.part(place, 2000)
                self.assertEqual(bits[:9], "".join(told.bit(place + at) for at in range(9)))
                index, number = told.sign_at(place)
                self.assertEqual(told.begin(index) + number, place)
                behind = spelled(code, text.part(index, 50))[number:]
                self.assertEqual(bits[:len(behind)], behind)
                self.agrees_with_bits(code, told, place, bits)

    def agrees_with_bits(self, code, told, place, bits):
        ends = {}
        index = told.sign_at(place)[0]
        at = told.begin(index)
        for sign in told.text.part(index, 300):
            ends[at] = index
            at += code.lengths[sign]
            index += 1
        for node in CHANCE.sample(nodes_of_words(code.words), 4):
            right = told.right_from(place, node)
            if right is not None and right < place + 300:
                reader, first = node, None
                for number, bit in enumerate(bits):
                    if reader == "" and place + number in ends:
                        first = place + number
                        break
                    reader = goal(code.words, reader, bit)
                self.assertEqual(right, first)
        touched, right = told.flipped(place)
        if right is not None and right < place + 300:
            self.assertEqual(ends[right] - told.sign_at(place)[0], touched)

    def test_words_of_one_length_are_never_right_from_between(self):
        code = Code([2, 2, 2, 2])
        told = coded(code, Text(4, {"A": [(0, GREAT), (3, GREAT), (2, 5)]}, "A"))
        for place in (0, 1, 10 ** 30, 10 ** 30 + 1, told.size - 1, told.size):
            for node in ("", "0", "1"):
                right = (place % 2 == 0) == (node == "")
                wanted = None
                if right:
                    wanted = place if node == "" else place + 1
                self.assertEqual(told.right_from(place, node), wanted)
        self.assertEqual(told.flipped(10 ** 30), (1, 10 ** 30 + 2))
        self.assertEqual(told.flipped(10 ** 30 + 1), (1, 10 ** 30 + 2))


class WrongTest(unittest.TestCase):
    def setUp(self):
        self.told = coded(Code([1, 2, 2]), Text(3, {"A": [(2, 3), (0, 2)]}, "A"))
        self.great = coded(Code([1, 2, 2]), Text(3, {"A": [(2, 10 ** 30), (0, 1)]}, "A"))

    def test_other_sizes(self):
        for many in (2, 4, 26):
            text = Text(many, {"A": [(1, 3)]}, "A")
            self.assertEqual(fields(raised(coded, Code([1, 2, 2]), text)), ("OtherSize", many, 3))

    def test_places_of_bits(self):
        self.assertEqual(self.told.size, 8)
        for value in [*no_integers(), -1, 8, 9, 10 ** 39, -10 ** 39]:
            for call in (self.told.bit, self.told.sign_at, self.told.flipped):
                self.assertEqual(fields(raised(call, value)), ("BadPlace", value))
        for value in (2 * 10 ** 30 + 1, 2 * 10 ** 30 + 2):
            for call in (self.great.bit, self.great.sign_at, self.great.flipped):
                self.assertEqual(fields(raised(call, value)), ("BadPlace", value))
        self.assertEqual((self.told.bit(7), self.great.bit(2 * 10 ** 30)), ("0", "0"))

    def test_indexes(self):
        for value in [*no_integers(), -1, 5, 6, 10 ** 39]:
            self.assertEqual(fields(raised(self.told.begin, value)), ("BadPlace", value))
        self.assertEqual(fields(raised(self.great.begin, 10 ** 30 + 1)), ("BadPlace", 10 ** 30 + 1))
        self.assertEqual((self.told.begin(4), self.great.begin(10 ** 30)), (7, 2 * 10 ** 30))

    def test_sizes_of_parts(self):
        for value in [*no_integers(), -1, 2001, 10 ** 39, -10 ** 39]:
            for first in (0, 8, 9, -1, None):
                self.assertEqual(fields(raised(self.told.part, first, value)), ("TooMany", "bits", value, 2000))
        self.assertEqual(len(self.great.part(10 ** 29, 2000)), 2000)

    def test_places_of_parts(self):
        for value in [*no_integers(), -1, 10 ** 39, -10 ** 39]:
            for size in (0, 1, 8, 9, 2000):
                self.assertEqual(fields(raised(self.told.part, value, size)), ("BadPlace", value))
        for first, size in ((9, 0), (8, 1), (6, 3), (1, 8), (0, 9), (0, 2000)):
            self.assertEqual(fields(raised(self.told.part, first, size)), ("BadPlace", first))
        for first, size in ((8, 0), (7, 1), (5, 3), (1, 7), (0, 8)):
            self.assertEqual(len(self.told.part(first, size)), size)
        end = 2 * 10 ** 30 + 1
        self.assertEqual(len(self.great.part(end - 2000, 2000)), 2000)
        self.assertEqual(fields(raised(self.great.part, end - 1999, 2000)), ("BadPlace", end - 1999))

    def test_places_of_readers(self):
        for value in [*no_integers(), -1, 9, 10 ** 39, -10 ** 39]:
            self.assertEqual(fields(raised(self.told.right_from, value)), ("BadPlace", value))
            self.assertEqual(fields(raised(self.told.right_from, value, "0")), ("BadPlace", value))
            self.assertEqual(fields(raised(self.told.right_from, value, None)), ("BadPlace", value))
        self.assertEqual((self.told.right_from(8), self.told.right_from(8, "1")), (8, None))

    def test_nodes_of_readers(self):
        for value in ["0", "10", "11", "2", " ", "01", *[value for value in any_values() if value != ""]]:
            for place in (0, 3, 8):
                self.assertEqual(fields(raised(self.told.right_from, place, value)), ("BadNode", value))

    def test_a_text_is_read_by_its_copy(self):
        rules = {"A": [(2, 3), ("B", 2)], "B": [(0, 1)]}
        told = coded(Code([1, 2, 2]), Text(3, rules, "A"))
        rules["A"].append((0, 100))
        rules["B"] = []
        self.assertEqual((told.size, told.part(0, 8)), (8, "11111100"))


if __name__ == "__main__":
    unittest.main()
