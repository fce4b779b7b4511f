import itertools
import random
import unittest

from leastjoined.codes import Code, cost
from leastjoined.joining import least_cost
from leastjoined.setting import Sets, is_setting, setting
from leastjoined.soonest import Soonest, soonest
from machines import shortest_by_trial, trees
from trial import cost_by_trial
from values import GREAT, fields, no_integers, raised

CHANCE = random.Random(20)


def fewest_by_trial(counts):
    """The fewest bits that set some least code right, None if none does: over all codes with any words."""
    price = min(
        cost_by_trial([len(word) for word in words], counts)
        for some in trees(len(counts)) for words in set(itertools.permutations(some))
    )
    sizes = [
        shortest_by_trial(some) for some in trees(len(counts))
        if any(cost_by_trial([len(word) for word in words], counts) == price for words in itertools.permutations(some))
    ]
    return min([size for size in sizes if size is not None], default=None)


class SoonestTest(unittest.TestCase):
    def agrees(self, counts, wanted):
        told = soonest(counts)
        if wanted is None:
            self.assertIsNone(told)
            return
        self.assertIsInstance(told, Soonest)
        self.assertIsInstance(told.code, Code)
        self.assertEqual(cost(told.code, counts), least_cost(counts))
        self.assertIs(is_setting(told.code, told.bits), True)
        self.assertEqual(len(told.bits), wanted, counts)

    def test_all_small_counts(self):
        for many, most in ((2, 3), (3, 3), (4, 2)):
            for counts in itertools.product(range(most + 1), repeat=many):
                self.agrees(list(counts), fewest_by_trial(counts))

    def test_five_signs(self):
        for _ in range(12):
            counts = [CHANCE.randint(0, CHANCE.choice([1, 4, 30])) for _ in range(5)]
            self.agrees(counts, fewest_by_trial(counts))

    def test_six_and_seven_signs(self):
        for counts in ([1] * 6, [1] * 7, [3, 3, 2, 2, 1, 1], [0] * 7, [1, 1, 1, 1, 2, 2, 2], [5, 5, 4, 4, 3, 3, 2]):
            self.agrees(counts, self.by_lengths(counts))
        for _ in range(10):
            counts = [CHANCE.randint(0, CHANCE.choice([2, 30])) for _ in range(CHANCE.choice([6, 7]))]
            self.agrees(counts, self.by_lengths(counts))

    def by_lengths(self, counts):
        """The same, the least cost of a set of words being that of the longest words for the least counts."""
        prices = {}
        for words in trees(len(counts)):
            lengths = sorted(len(word) for word in words)
            prices[words] = cost_by_trial(lengths, sorted(counts, reverse=True))
        sizes = [shortest_by_trial(words) for words, price in prices.items() if price == min(prices.values())]
        return min([size for size in sizes if size is not None], default=None)

    def test_none_can_be_set_right(self):
        for counts in ([1] * 4, [5] * 4, [2, 2, 3, 3], [GREAT] * 4):
            self.assertIsNone(soonest(counts))

    def test_two_signs(self):
        for counts in ([0, 0], [1, 0], [3, 9]):
            told = soonest(counts)
            self.assertEqual((told.code.lengths, told.bits), ((1, 1), ""))

    def test_the_signs_have_the_words_of_their_counts(self):
        told = soonest([1, 9, 3, 1, 30])
        self.assertEqual(told.code.lengths, (4, 2, 3, 4, 1))
        self.assertEqual(soonest([0, 0, 1]).code.lengths[2], 1)

    def test_unlike_words_of_like_lengths(self):
        # Five equal counts: lengths 2, 2, 2, 3, 3. Which words are the longer ones tells how soon it is.
        sizes = set()
        for words in trees(5):
            if sorted(len(word) for word in words) == [2, 2, 2, 3, 3]:
                sizes.add(shortest_by_trial(words))
        self.assertEqual(len(soonest([1] * 5).bits), min(sizes))
        self.assertEqual(sorted(soonest([1] * 5).code.lengths), [2, 2, 2, 3, 3])

    def test_it_is_what_setting_tells(self):
        for counts in ([2, 1, 1, 1], [1] * 5, [8, 4, 2, 1, 1], [1] * 7):
            told = soonest(counts)
            self.assertIsInstance(setting(told.code), Sets)
            self.assertEqual(len(setting(told.code).bits), len(told.bits))

    def test_equal_calls(self):
        for counts in ([2, 1, 1, 1], [1] * 6, [0] * 5):
            one, other = soonest(counts), soonest(tuple(counts))
            self.assertEqual((one.code.words, one.bits), (other.code.words, other.bits))

    def test_errors(self):
        for many in (0, 1, 27, 40):
            self.assertEqual(fields(raised(soonest, [1] * many)), ("TooMany", "signs", many, 26))
        for many in (8, 9, 26):
            self.assertEqual(fields(raised(soonest, [1] * many)), ("TooMany", "signs", many, 7))
        for value in [*no_integers(), -1, -10 ** 39]:
            self.assertEqual(fields(raised(soonest, [1, value, value])), ("BadCount", 1))
            self.assertEqual(fields(raised(soonest, [1] * 7 + [value])), ("BadCount", 7))
            self.assertEqual(fields(raised(soonest, [value])), ("TooMany", "signs", 1, 26))

    def test_counts_are_not_changed(self):
        counts = [3, 1, 2, 2]
        soonest(counts)
        self.assertEqual(counts, [3, 1, 2, 2])


if __name__ == "__main__":
    unittest.main()
