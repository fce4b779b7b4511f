import itertools
import random
import unittest
from fractions import Fraction

from leastjoined.codes import Code, all_codes, cost
from leastjoined.joining import joined, least_cost
from leastjoined.limits import (
    BetterWithin, LeastWithin, is_better_within, is_least_within, judge_within, least_within, prices,
)
from trial import cost_by_trial, least_by_trial, lengths_of_all
from values import GREAT, any_values, deep, fields, no_integers, raised

CHANCE = random.Random(10)


def counts_of(many):
    rows = [[0] * many, [1] * many, [2 ** at for at in range(many)], [2 ** at for at in reversed(range(many))]]
    rows += [[0] * (many - 1) + [1], [5] + [0] * (many - 1), list(range(many))]
    for most in (1, 3, 20, GREAT):
        rows.append([CHANCE.randint(0, most) for _ in range(many)])
    return rows


def fewest_bits(many):
    return next(bits for bits in range(1, 26) if 2 ** bits >= many)


def coins_of(lengths, most, held):
    """All held coins, or all free ones, ascending."""
    return [
        (sign, k) for sign in range(len(lengths)) for k in range(1, most + 1) if (k <= lengths[sign]) == held
    ]


def worths_by_trial(lengths, counts, most, held):
    """For each k the greatest worth of held coins, or the least one of free ones, by a look at all sets of them."""
    found = {}
    coins = coins_of(lengths, most, held)
    for size in range(1, len(coins) + 1):
        for some in itertools.combinations(coins, size):
            width = sum(Fraction(1, 2 ** k) for _, k in some)
            worth = sum(counts[sign] for sign, _ in some)
            best = max if held else min
            found[width] = best(found.get(width, worth), worth)
    return tuple(found.get(Fraction(1, 2 ** k)) for k in range(1, most + 1))


def width_of(coins):
    return sum(Fraction(1, 2 ** k) for _, k in coins)


def changed(row, at, part):
    return (*row[:at], part, *row[at + 1:])


class LeastWithinTest(unittest.TestCase):
    def test_all_limits_of_few_signs(self):
        for many in range(2, 7):
            for counts in counts_of(many):
                for most in range(fewest_bits(many), many + 2):
                    told = least_within(counts, most)
                    wanted = min(cost_by_trial(one, counts) for one in lengths_of_all(many) if max(one) <= most)
                    self.assertEqual(cost(told, counts), wanted)
                    self.assertLessEqual(told.longest, most)
                    self.assertTrue(told == Code(told.lengths))

    def test_all_small_counts(self):
        for counts in itertools.product(range(4), repeat=4):
            for most in (2, 3, 4, 25):
                wanted = min(cost_by_trial(one, counts) for one in lengths_of_all(4) if max(one) <= most)
                self.assertEqual(cost(least_within(counts, most), counts), wanted)

    def test_many_signs(self):
        for many in (8, 16, 17, 25, 26):
            for counts in counts_of(many):
                ahead = None
                for most in range(fewest_bits(many), 26):
                    told = least_within(counts, most)
                    price = cost(told, counts)
                    self.assertLessEqual(told.longest, most)
                    self.assertTrue(is_least_within(judge_within(told, counts, most)))
                    self.assertTrue(ahead is None or price <= ahead)
                    ahead = price
                self.assertEqual(ahead, least_cost(counts))

    def test_just_enough_bits(self):
        for bits in range(1, 5):
            for counts in counts_of(2 ** bits):
                self.assertEqual(least_within(counts, bits).lengths, (bits,) * 2 ** bits)

    def test_equal_calls(self):
        for counts in counts_of(9):
            self.assertTrue(least_within(counts, 5) == least_within(tuple(counts), 5))

    def test_errors(self):
        for many in (0, 1, 27):
            self.assertEqual(fields(raised(least_within, [None] * many, None)), ("TooMany", "signs", many, 26))
        for value in [-1, *no_integers()]:
            self.assertEqual(fields(raised(least_within, [1, value], 0)), ("BadCount", 1))
        for value in [0, -1, 26, -GREAT, GREAT, *no_integers()]:
            error = raised(least_within, [1] * 26, value)
            self.assertEqual(fields(error), ("BadSize", value))
            self.assertIs(error.size.__class__, value.__class__)
        for many in range(2, 27):
            for most in range(1, 26):
                error = raised(least_within, [1] * many, most)
                if most < fewest_bits(many):
                    self.assertEqual(fields(error), ("TooShort", most, fewest_bits(many)))
                else:
                    self.assertIsNone(error)

    def test_counts_are_not_changed(self):
        counts = [5, 1, 0, 2]
        least_within(counts, 2)
        judge_within(Code([2, 2, 2, 2]), counts, 2)
        prices(counts)
        self.assertEqual(counts, [5, 1, 0, 2])


class JudgeWithinTest(unittest.TestCase):
    def test_all_codes_of_few_signs(self):
        for many in range(2, 7):
            for counts in counts_of(many)[::1 if many < 6 else 3]:
                for most in range(fewest_bits(many), many + 1):
                    codes = [code for code in all_codes(many) if code.longest <= most]
                    price = min(cost(code, counts) for code in codes)
                    for code in codes:
                        self.check(code, counts, most, price)

    def check(self, code, counts, most, price):
        told = judge_within(code, counts, most)
        self.assertTrue(told.code == code)
        self.assertEqual((told.counts, told.most), (tuple(counts), most))
        if cost(code, counts) == price:
            self.assertIsInstance(told, LeastWithin)
            self.assertEqual((len(told.held), len(told.free)), (most, most))
            self.assertIs(is_least_within(told), True)
        else:
            self.assertIsInstance(told, BetterWithin)
            self.assertIs(is_better_within(told), True)
            self.assertLess(cost(told.other, counts), cost(code, counts))
            self.assertLessEqual(told.other.longest, most)
            self.assertTrue(set(told.held) <= set(coins_of(code.lengths, most, True)))
            self.assertTrue(set(told.free) <= set(coins_of(code.lengths, most, False)))
            self.assertEqual((list(told.held), list(told.free)), (sorted(set(told.held)), sorted(set(told.free))))
            self.assertEqual(width_of(told.held), width_of(told.free))
            self.assertIn(width_of(told.held), [Fraction(1, 2 ** k) for k in range(1, most + 1)])
            self.assertLess(sum(counts[sign] for sign, _ in told.free), sum(counts[sign] for sign, _ in told.held))

    def test_worths_by_trial(self):
        for many, most in ((2, 1), (2, 3), (3, 2), (3, 4), (4, 2), (4, 3)):
            for counts in counts_of(many):
                for code in all_codes(many):
                    if code.longest <= most:
                        told = judge_within(code, counts, most)
                        if isinstance(told, LeastWithin):
                            self.assertEqual(told.held, worths_by_trial(code.lengths, counts, most, True))
                            self.assertEqual(told.free, worths_by_trial(code.lengths, counts, most, False))

    def test_none_where_there_are_none(self):
        self.assertEqual(vars(judge_within(Code([1, 1]), [3, 4], 1))["free"], (None,))
        told = judge_within(Code([1, 1]), [3, 4], 3)
        self.assertEqual((told.held, told.free), ((4, None, None), (7, 3, 3)))
        told = judge_within(Code([2, 2, 2, 2]), [1, 1, 1, 1], 2)
        self.assertEqual((told.held, told.free), ((2, 1), (None, None)))

    def test_many_signs(self):
        for many in (16, 25, 26):
            for counts in counts_of(many):
                for most in (5, 6, 12, 25):
                    best = cost(least_within(counts, most), counts)
                    turned = least_within(counts[::-1], most)
                    for code in (least_within(counts, most), turned, joined(counts, "low").code):
                        if code.longest <= most:
                            told = judge_within(code, counts, most)
                            self.assertEqual(isinstance(told, LeastWithin), cost(code, counts) == best)
                            taken = is_least_within if isinstance(told, LeastWithin) else is_better_within
                            self.assertIs(taken(told), True)

    def test_errors(self):
        code = Code([1, 2, 3, 3])
        for many in (0, 1, 27):
            self.assertEqual(fields(raised(judge_within, code, [None] * many, 0)), ("TooMany", "signs", many, 26))
        for value in [-1, *no_integers()]:
            self.assertEqual(fields(raised(judge_within, code, [1, value], None)), ("BadCount", 1))
        for many in (2, 3, 5, 26):
            self.assertEqual(fields(raised(judge_within, code, [1] * many, 0)), ("OtherSize", many, 4))
        for value in [0, -1, 26, GREAT, *no_integers()]:
            self.assertEqual(fields(raised(judge_within, code, [1] * 4, value)), ("BadSize", value))
        self.assertEqual(fields(raised(judge_within, code, [1] * 4, 1)), ("TooLong", 1))
        self.assertEqual(fields(raised(judge_within, code, [1] * 4, 2)), ("TooLong", 2))
        self.assertEqual(fields(raised(judge_within, Code([3, 1, 3, 2]), [1] * 4, 2)), ("TooLong", 0))
        for most in range(3, 26):
            self.assertIsNone(raised(judge_within, code, [1] * 4, most))


class IsLeastWithinTest(unittest.TestCase):
    def setUp(self):
        self.code, self.counts = Code([1, 2, 3, 3]), (8, 4, 2, 1)
        self.held, self.free = (8, 4, 2), (20, 8, 4)

    def takes(self, *args):
        told = is_least_within(LeastWithin(*args))
        self.assertIn(told, (True, False))
        return told

    def test_right(self):
        self.assertTrue(self.takes(self.code, self.counts, 3, self.held, self.free))
        self.assertTrue(self.takes(self.code, list(self.counts), 3, list(self.held), list(self.free)))

    def test_one_thing_otherwise(self):
        for at in range(3):
            for value in (self.held[at] + 1, self.held[at] - 1, None, True, "8", (), GREAT):
                self.assertFalse(self.takes(self.code, self.counts, 3, changed(self.held, at, value), self.free))
                self.assertFalse(self.takes(self.code, self.counts, 3, self.held, changed(self.free, at, value)))
        for row in ((8, 4), (8, 4, 2, None), (8, 4, 2, 2), ()):
            self.assertFalse(self.takes(self.code, self.counts, 3, row, self.free))
        for row in ((20, 8), (20, 8, 4, None), ()):
            self.assertFalse(self.takes(self.code, self.counts, 3, self.held, row))
        self.assertFalse(self.takes(self.code, self.counts, 3, self.free, self.held))

    def test_other_numbers_of_bits(self):
        for most in (2, 4, 0, -3, GREAT, -GREAT, *no_integers()):
            self.assertFalse(self.takes(self.code, self.counts, most, self.held, self.free))
        told = judge_within(self.code, self.counts, 4)
        self.assertTrue(self.takes(self.code, self.counts, 4, told.held, told.free))
        self.assertFalse(self.takes(self.code, self.counts, 3, told.held, told.free))
        self.assertFalse(self.takes(self.code, self.counts, 2, self.held[:2], self.free[:2]))

    def test_other_counts_and_codes(self):
        for counts in ((8, 4, 2), (8, 4, 2, 1, 0), (), (8, 4, 3, 1), (4, 8, 2, 1)):
            self.assertFalse(self.takes(self.code, counts, 3, self.held, self.free))
        for code in (Code([2, 2, 2, 2]), Code([1, 2, 2]), Code([1, 1])):
            self.assertFalse(self.takes(code, self.counts, 3, self.held, self.free))

    def test_code_that_costs_more(self):
        for counts in itertools.product(range(3), repeat=3):
            for code in all_codes(3):
                held = worths_by_trial(code.lengths, counts, 3, True)
                free = worths_by_trial(code.lengths, counts, 3, False)
                wanted = code.lengths in least_by_trial(counts)
                self.assertEqual(self.takes(code, counts, 3, held, free), wanted)

    def test_any_values(self):
        for value in [*any_values(), deep(10)]:
            self.assertFalse(self.takes(self.code, self.counts, 3, value, self.free))
            self.assertFalse(self.takes(self.code, self.counts, 3, self.held, value))

    def test_fields(self):
        held, free = [1, [2]], [None]
        told = LeastWithin(self.code, [1, 2], 3, held, free)
        held.append(4)
        free.append(4)
        self.assertEqual((told.counts, told.most, told.held, told.free), ((1, 2), 3, (1, (2,)), (None,)))


class IsBetterWithinTest(unittest.TestCase):
    def setUp(self):
        self.code, self.counts, self.other = Code([2, 2, 2, 2]), (8, 4, 2, 1), Code([1, 2, 3, 3])
        # Width 1 / 4: the held one of sign 0, the free ones of signs 2 and 3.
        self.held, self.free = ((0, 2),), ((2, 3), (3, 3))

    def takes(self, *args):
        told = is_better_within(BetterWithin(*args))
        self.assertIn(told, (True, False))
        return told

    def test_right(self):
        self.assertTrue(self.takes(self.code, self.counts, 3, self.held, self.free, self.other))
        self.assertTrue(self.takes(self.code, list(self.counts), 3, [[0, 2]], [[2, 3], (3, 3)], self.other))
        worded = Code([1, 2, 3, 3], ["1", "01", "001", "000"])
        self.assertTrue(self.takes(self.code, self.counts, 3, self.held, self.free, worded))

    def test_all_sets_of_coins(self):
        for code, counts, other in ((Code([1, 2, 2]), (1, 2, 9), Code([2, 2, 1])), (Code([1, 1]), (2, 0), None)):
            coins = [(sign, k) for sign in range(code.size) for k in range(1, 4)]
            sets = [some for size in range(5) for some in itertools.combinations(coins, size)]
            right = [Fraction(1, 2 ** k) for k in range(1, 4)]
            held_ones, free_ones = (set(coins_of(code.lengths, 3, held)) for held in (True, False))
            for held, free in itertools.product(sets, repeat=2):
                wanted = set(held) <= held_ones and set(free) <= free_ones
                wanted = wanted and width_of(held) == width_of(free) and width_of(held) in right
                wanted = wanted and sum(counts[sign] for sign, _ in held) > sum(counts[sign] for sign, _ in free)
                wanted = wanted and other is not None
                self.assertEqual(self.takes(code, counts, 3, held, free, other), wanted)

    def test_coins_otherwise(self):
        wrong = [(), ((0, 1),), ((0, 2), (0, 2)), ((0, 2), (1, 2)), ((0, 3),), ((4, 2),), ((-4, 2),), ((0,),)]
        wrong += [((0, 2, 0),), (0, 2), ((0, "2"),), ((0, 0),), ((False, 2),), ((0, -2),), ((3, 2),), (("0", 2),)]
        for held in wrong:
            self.assertFalse(self.takes(self.code, self.counts, 3, held, self.free, self.other))
        wrong = [(), ((2, 3),), ((3, 3), (2, 3)), ((2, 3), (2, 3)), ((2, 3), (3, 3), (3, 3)), ((2, 3), (3, 4), (3, 5))]
        wrong += [((1, 2),), ((2, 2),), ((2, 3), (4, 3)), ((2, 3), (3, GREAT)), ((2, 3), (3, True)), ((0, 3), (1, 3))]
        for free in wrong:
            self.assertFalse(self.takes(self.code, self.counts, 3, self.held, free, self.other))
        self.assertFalse(self.takes(self.code, self.counts, 3, self.free, self.held, self.other))

    def test_coins_beyond_the_limit(self):
        free = ((2, 4), (3, 3), (3, 4))
        self.assertTrue(self.takes(self.code, self.counts, 4, self.held, free, self.other))
        self.assertFalse(self.takes(self.code, self.counts, 3, self.held, free, self.other))

    def test_signs_below_zero(self):
        code, counts, other = Code([2, 2, 2, 2]), (1, 2, 4, 8), Code([3, 3, 2, 1])
        self.assertTrue(self.takes(code, counts, 3, ((3, 2),), ((0, 3), (1, 3)), other))
        self.assertFalse(self.takes(code, counts, 3, ((-1, 2),), ((0, 3), (1, 3)), other))
        self.assertFalse(self.takes(code, counts, 3, ((3, 2),), ((-3, 3), (0, 3)), other))

    def test_widths_that_are_no_such_width(self):
        # Both have the width 3 / 4, or 1 for the held ones alone.
        code, counts, other = Code([1, 2, 2]), (1, 2, 9), Code([2, 2, 1])
        self.assertFalse(self.takes(code, counts, 4, ((1, 1), (2, 2)), ((0, 2), (0, 3), (1, 3), (2, 3), (2, 4)), other))
        self.assertFalse(self.takes(code, counts, 4, ((1, 1), (2, 1)), ((0, 2), (0, 3), (1, 3)), other))

    def test_number_of_bits(self):
        for most in (2, 1, 0, -1, *no_integers()):
            self.assertFalse(self.takes(self.code, self.counts, most, self.held, self.free, self.other))
        for most in (4, 25):
            self.assertTrue(self.takes(self.code, self.counts, most, self.held, self.free, self.other))
        self.assertFalse(self.takes(Code([1, 2, 3, 3]), (1, 1, 1, 9), 2, ((3, 3),), ((0, 3),), Code([2, 2, 2, 2])))
        self.assertTrue(self.takes(Code([1, 2, 3, 3]), (1, 1, 1, 9), 3, ((3, 3),), ((0, 3),), Code([2, 2, 2, 2])))

    def test_other_code(self):
        wrong = [Code([2, 2, 2, 2]), Code([2, 1, 3, 3]), Code([3, 3, 2, 1]), Code([1, 2, 2]), Code([1, 1])]
        for other in [*wrong, *any_values(), (1, 2, 3, 3)]:
            told = self.takes(self.code, self.counts, 3, self.held, self.free, other)
            self.assertEqual(told, other.__class__ is Code and other.size == 4 and cost(other, self.counts) < 30)
        # It costs less, but has a longer word.
        counts = (8, 4, 2, 1, 0)
        code, other = Code([2, 2, 2, 3, 3]), Code([1, 2, 3, 4, 4])
        self.assertTrue(self.takes(code, counts, 4, ((0, 2),), ((2, 3), (3, 4), (4, 4)), other))
        self.assertFalse(self.takes(code, counts, 3, ((0, 2),), ((1, 3), (2, 3)), other))

    def test_other_counts(self):
        for counts in ((8, 4, 2), (8, 4, 2, 1, 0), (), (3, 4, 2, 1), (2, 4, 2, 1), (8, 4, 2, -1), (8, 4, 2, True)):
            self.assertFalse(self.takes(self.code, counts, 3, self.held, self.free, self.other))

    def test_any_values(self):
        for value in [*any_values(), deep(10)]:
            self.assertFalse(self.takes(self.code, self.counts, 3, value, self.free, self.other))
            self.assertFalse(self.takes(self.code, self.counts, 3, (value,), self.free, self.other))
            self.assertFalse(self.takes(self.code, self.counts, 3, self.held, value, self.other))
            self.assertFalse(self.takes(self.code, self.counts, 3, self.held, ((2, 3), value), self.other))

    def test_fields(self):
        held = [[0, 2]]
        told = BetterWithin(self.code, [8, 4, 2, 1], 3, held, [[2, 3], (3, 3)], self.other)
        held[0].append(5)
        self.assertEqual((told.counts, told.held, told.free), (self.counts, self.held, self.free))
        self.assertIs(told.other, self.other)


class PricesTest(unittest.TestCase):
    def test_by_trial(self):
        for many in range(2, 7):
            for counts in counts_of(many):
                wanted = []
                for most in range(fewest_bits(many), 26):
                    codes = [one for one in lengths_of_all(many) if max(one) <= most]
                    wanted.append((most, min(cost_by_trial(one, counts) for one in codes)))
                    if wanted[-1][1] == least_cost(counts):
                        break
                told = prices(counts)
                self.assertEqual(told, tuple(wanted))
                self.assertTrue(told.__class__ is tuple and told[0].__class__ is tuple)

    def test_many_signs(self):
        for counts in counts_of(26):
            told = prices(counts)
            self.assertEqual([pair[0] for pair in told], list(range(5, 5 + len(told))))
            self.assertEqual(told[-1][1], least_cost(counts))
            self.assertTrue(all(pair[1] > least_cost(counts) for pair in told[:-1]))
            self.assertEqual(told[-1][0], max(5, joined(counts, "low").code.longest))
            self.assertTrue(all(one[1] >= other[1] for one, other in zip(told, told[1:])))
        self.assertEqual(prices([2 ** at for at in range(26)])[-1][0], 25)

    def test_errors(self):
        for many in (0, 1, 27):
            self.assertEqual(fields(raised(prices, [None] * many)), ("TooMany", "signs", many, 26))
        for value in [-1, *no_integers()]:
            self.assertEqual(fields(raised(prices, (1, 2, value))), ("BadCount", 2))


if __name__ == "__main__":
    unittest.main()
