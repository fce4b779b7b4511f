import random
import unittest
from fractions import Fraction
from unittest import mock

from leastjoined.codes import Code
from leastjoined.flips import Flips, flips
from leastjoined.ratios import Ratio
from leastjoined.readers import read, spelled
from machines import BOTH_WAYS, goal, mixed, never_set, of_words, split_code, trees, turned, twice, walk
from markov import may_stay, means
from values import GREAT, fields, no_integers, raised

CHANCE = random.Random(19)
DEEP = Code([*range(1, 26), 25])


def codes():
    """Codes of two to seven signs with any words."""
    told = [mixed(words, seed) for many in range(2, 7) for seed, words in enumerate(trees(many))]
    told += [mixed(words, seed) for seed, words in enumerate(trees(7)[::6])]
    return told + [of_words(words) for words in never_set(7)] + [of_words(twice(("1", "0")))]


def more_codes():
    """And codes of more signs, with nodes to which only some signs behind the turned bit lead, and such as never end."""
    told = [
        of_words(("0", "1000", "1001", "101", "1100", "1101", "1110", "1111")),
        of_words(("000", "001", "010", "011", "100", "101", "110", "1110", "1111")),
        of_words(("000000", "0000010", "0000011", "00001", "0001", "0010", "0011", "01", "1")),
    ]
    return codes() + told + [mixed(words, seed) for seed, words in enumerate(never_set(9) + trees(8)[::40])]


def starts_of(words):
    """For each word and each bit: the sign, the number of the bit, and what the turned word leads to and gives."""
    return [
        (sign, number, *walk(words, "", turned(word, number))[:2])
        for sign, word in enumerate(words) for number in range(len(word))
    ]


def most_by_trial(words):
    """The most signs until both readers are at the root, over all texts: the nodes behind each number of signs."""
    nodes, many = {node for _, _, node, _ in starts_of(words)} - {""}, 1
    while nodes:
        if many > len(words) + 1:
            return None
        nodes = {goal(words, node, word) for node in nodes for word in words} - {""}
        many += 1
    return many


def touched(words, signs, place):
    """The index of the sign of the bit, and how many signs are touched and whether both come to the root."""
    bits = "".join(words[sign] for sign in signs)
    other = turned(bits, place)
    ends, size = [], 0
    for sign in signs:
        size += len(words[sign])
        ends.append(size)
    first = next(index for index, end in enumerate(ends) if end > place)
    node = ""
    for at, bit in enumerate(other):
        node = goal(words, node, bit)
        if at >= place and node == "" and at + 1 in ends:
            return first, ends.index(at + 1) + 1 - first, True
    return first, len(signs) - first, False


def gains_by_trial(words, bound):
    """All gains, from -bound to bound on the way, with which both readers come to the root."""
    found = {}
    seen = {(node, len(signs) - 1) for _, _, node, signs in starts_of(words)}
    left = list(seen)
    while left:
        node, gain = left.pop()
        if node == "":
            found[gain] = True
            continue
        for word in words:
            end, signs, _ = walk(words, node, word)
            more = (end, gain + len(signs) - 1)
            if more not in seen and abs(more[1]) <= bound:
                seen.add(more)
                left.append(more)
    return sorted(found)


class MostTest(unittest.TestCase):
    def test_over_all_texts(self):
        wanted = [most_by_trial(code.words) for code in more_codes()]
        for code, most in zip(more_codes(), wanted):
            told = flips(code)
            self.assertIsInstance(told, Flips)
            self.assertEqual(told.code, code)
            self.assertEqual(told.most, most, code.words)
        self.assertEqual(set(wanted), {None, 1})

    def test_words_of_one_length(self):
        for size in range(1, 5):
            code = Code([size] * 2 ** size)
            self.assertEqual((flips(code).most, flips(code).gain), (1, (0, 0)))

    def test_against_texts_by_chance(self):
        for code in codes()[:40]:
            most = flips(code).most
            for _ in range(20):
                signs = [CHANCE.randrange(code.size) for _ in range(12)]
                place = CHANCE.randrange(len(spelled(code, signs)))
                if most is not None:
                    self.assertLessEqual(touched(code.words, signs, place)[1], most)


class ShownTest(unittest.TestCase):
    def agrees(self, code):
        told = flips(code)
        signs, place, ring = told.shown
        self.assertEqual((type(told.shown), type(signs), type(ring)), (tuple, tuple, tuple))
        self.assertTrue(0 <= place < len(spelled(code, signs)))
        if told.most is not None:
            self.assertEqual((len(signs), ring), (told.most, ()))
            self.assertEqual(touched(code.words, signs, place)[:2], (0, told.most))
            return
        self.assertTrue(ring)
        for times in (0, 1, 2, 3, 10):
            text = signs + ring * times
            first, many, _ = touched(code.words, text, place)
            self.assertEqual(first + many, len(text), (code.words, told.shown))
            # Not even at the end are both at the root: the ring may come once more.
            self.assertFalse(touched(code.words, text, place)[2])

    def test_against_two_readers(self):
        for code in more_codes():
            self.agrees(code)

    def test_great_codes(self):
        for code in (DEEP, Code([4] * 16), of_words(BOTH_WAYS), of_words(twice(trees(4)[3]))):
            self.agrees(code)
        for many in (8, 13, 20, 26):
            for seed in range(4):
                self.agrees(split_code(many, seed, seed == 3))

    def test_it_is_set_once(self):
        told = flips(Code([1, 2, 2]))
        self.assertEqual(told.shown, told.shown)
        self.assertEqual(told.shown, flips(Code((1, 2, 2))).shown)


class GainTest(unittest.TestCase):
    def test_over_all_texts(self):
        kinds = set()
        for code in more_codes():
            # Ways without a ring gain no more than so much; ways that gain more go round a ring.
            far = 5 * code.size
            gains = gains_by_trial(code.words, 4 * far)
            wanted = (None if gains[0] < -far else gains[0], None if gains[-1] > far else gains[-1])
            self.assertEqual(flips(code).gain, wanted, code.words)
            kinds.add((wanted[0] is None, wanted[1] is None))
        self.assertEqual(kinds, {(False, False), (True, True)})

    def test_against_texts_by_chance(self):
        for code in more_codes():
            least, greatest = flips(code).gain
            for _ in range(30):
                signs = [CHANCE.randrange(code.size) for _ in range(12)]
                bits = spelled(code, signs)
                place = CHANCE.randrange(len(bits))
                first, many, both = touched(code.words, signs, place)
                if both:
                    begin = len(spelled(code, signs[:first]))
                    end = len(spelled(code, signs[:first + many]))
                    gain = len(read(code, turned(bits, place)[begin:end]).signs) - many
                    self.assertTrue(least is None or least <= gain)
                    self.assertTrue(greatest is None or gain <= greatest)

    def test_two_signs(self):
        told = flips(Code([1, 1]))
        self.assertEqual((told.most, told.gain), (1, (0, 0)))

    def test_kinds(self):
        for code in more_codes():
            self.assertIsInstance(flips(code).gain, tuple)

    def test_great_codes(self):
        self.assertEqual(flips(Code([4] * 16)).gain, (0, 0))
        for code in (DEEP, split_code(26, 1), split_code(26, 2), of_words(twice(trees(4)[3]))):
            least, greatest = flips(code).gain
            self.assertTrue(least is None or least <= 0)
            self.assertTrue(greatest is None or greatest >= 0)


class MeanTest(unittest.TestCase):
    def by_trial(self, words, counts):
        """The mean by the equations of one bit: each bit at which the reader of the text comes to the root is a sign."""
        starts = [
            (count, goal(words, "", word[:number + 1]), goal(words, "", turned(word, number)[:number + 1]))
            for word, count in zip(words, counts) for number in range(len(word))
        ]
        if any(may_stay(words, (one, other)) for _, one, other in starts):
            return None
        told = means(words, counts, [start[1:] for start in starts], lambda one, bit: int(one + bit in words))
        total = Fraction(0)
        for count, one, other in starts:
            # The sign of the bit is touched, if it ends with this bit, too.
            total += count * (told[(one, other)] + (1 if one == "" else 0))
        return total / sum(start[0] for start in starts)

    def test_the_equations_of_one_bit(self):
        for code in codes():
            told = flips(code)
            for most in (1, 9, GREAT):
                self.agrees(told, [CHANCE.randint(1, most) for _ in range(code.size)])

    def agrees(self, told, counts):
        wanted = self.by_trial(told.code.words, counts)
        mean = told.mean(counts)
        if wanted is None:
            self.assertIsNone(mean)
        else:
            self.assertIsInstance(mean, Ratio)
            self.assertEqual((mean.number, mean.over), (wanted.numerator, wanted.denominator), told.code.words)
            self.assertEqual(mean, told.mean(tuple(counts)))
        return mean

    def test_more_signs_than_are_allowed(self):
        # With up to eight signs all means are finite.
        with mock.patch("leastjoined.delays.MOST_SIGNS_DRAWN", 26):
            nones = {self.agrees(flips(of_words(words)), list(range(1, 10))) is None for words in never_set(9)}
            self.assertEqual(nones, {True})
            for seed in range(3):
                self.assertIsNotNone(self.agrees(flips(split_code(9, seed)), [1] * 9))
            self.assertEqual(self.agrees(flips(Code([4] * 16)), [1] * 16), Ratio(1))

    def test_eight_signs(self):
        for seed in range(6):
            self.agrees(flips(split_code(8, seed)), [CHANCE.randint(1, 50) for _ in range(8)])
        self.assertEqual(flips(Code([3] * 8)).mean([4] * 8), Ratio(1))

    def test_the_document(self):
        self.assertEqual(str(flips(Code([1, 2, 2])).mean([2, 1, 1])), "5/3")

    def test_it_is_no_more_than_most(self):
        for code in codes():
            told = flips(code)
            mean = told.mean([1] * code.size)
            if mean is not None:
                self.assertFalse(mean.is_less(1))
                if told.most is not None:
                    self.assertFalse(Ratio(told.most).is_less(mean))

    def test_counts(self):
        told = flips(Code([1, 2, 3, 3]))
        for many in (0, 1, 27, 40):
            self.assertEqual(fields(raised(told.mean, [0] * many)), ("TooMany", "signs", many, 26))
        for many in (2, 3, 5, 26):
            self.assertEqual(fields(raised(told.mean, [0] * many)), ("OtherSize", many, 4))
        for value in [*no_integers(), -1, -10 ** 39]:
            self.assertEqual(fields(raised(told.mean, [0, 1, value, value])), ("BadCount", 2))
            self.assertEqual(fields(raised(told.mean, [0, value])), ("BadCount", 1))
            self.assertEqual(fields(raised(told.mean, [value] * 27)), ("TooMany", "signs", 27, 26))

    def test_counts_of_0(self):
        told = flips(Code([1, 2, 3, 3]))
        for at in range(4):
            counts = [1] * at + [0] + [5, 0, 5][:3 - at]
            self.assertEqual(fields(raised(told.mean, counts)), ("BadCount", at))

    def test_more_than_eight_signs(self):
        for many in (9, 10, 26):
            told = flips(split_code(many, 3))
            self.assertEqual(fields(raised(told.mean, [1] * many)), ("TooMany", "signs", many, 8))
            self.assertEqual(fields(raised(told.mean, [0] + [1] * (many - 1))), ("BadCount", 0))
            self.assertEqual(fields(raised(told.mean, [0] * (many - 1))), ("OtherSize", many - 1, many))
            self.assertEqual(fields(raised(told.mean, [1] * (many - 1) + [-1])), ("BadCount", many - 1))


if __name__ == "__main__":
    unittest.main()
