import itertools
import random
import unittest

from leastjoined.borders import border
from leastjoined.changes import is_near, is_only, nearest, slack, taken, until
from leastjoined.codes import Code, cost
from leastjoined.joining import joined
from leastjoined.least import Least, judge
from trial import (
    cost_by_trial, least_by_trial, lengths_of_all, rows_by_trial, slack_by_trial, subsets, weight,
)
from values import GREAT, any_values, deep, fields, no_integers, raised

CHANCE = random.Random(11)
ALL = (slack, is_only, nearest, taken)


def least_of(many, rows):
    """Pairs of a code that is least and its counts."""
    return [(Code(lengths), counts) for counts in rows for lengths in least_by_trial(counts)]


def small_cases():
    rows = [*itertools.product(range(3), repeat=3), *itertools.product((0, 1, 3), repeat=4)]
    rows += [[CHANCE.randint(0, 6) for _ in range(5)] for _ in range(25)]
    rows += [[CHANCE.randint(0, 9) for _ in range(6)] for _ in range(4)]
    return [case for counts in rows for case in least_of(len(counts), [tuple(counts)])]


def raises_by(many, signs):
    """All ways to raise counts of so many signs by so many in all."""
    for some in itertools.combinations_with_replacement(range(signs), many):
        yield [some.count(sign) for sign in range(signs)]


def is_least_by_trial(code, counts):
    return code.lengths in least_by_trial(counts)


class SlackTest(unittest.TestCase):
    def test_all_rows_of_small_codes(self):
        for code, counts in small_cases():
            slacks = [slack_by_trial(code.lengths, counts, row) for row in rows_by_trial(code.lengths)]
            self.assertEqual(slack(code, counts), min(slacks, default=None))
            self.assertIs(is_only(code, counts), len(least_by_trial(counts)) == 1)
            self.assertGreaterEqual(min(slacks, default=0), 0)

    def test_no_row(self):
        code = Code([1, 1])
        for counts in ([0, 0], [5, 1], (GREAT, 0)):
            told = nearest(code, counts)
            self.assertEqual([told.many, told.light, told.heavy, told.sign], [None] * 4)
            self.assertEqual((slack(code, counts), is_only(code, counts), taken(code, counts)), (None, True, None))
            for many, light, heavy in ((None, None, None), (1, (0,), (1,)), (0, (), ())):
                self.assertIs(is_near(code, counts, many, light, heavy), False)

    def test_borders_of_many_signs(self):
        cases = [([4] * 16, (0, 1), (5,)), ([4] * 16, (7, 13), (15,)), ([*range(1, 26), 25], (6,), (7,))]
        cases += [([5] * 22 + [4] * 3 + [3], (24,), (3,)), ([5] * 20 + [4] * 6, (0, 1), (2,))]
        for lengths, light, heavy in cases:
            code = Code(lengths)
            counts = [100 * count for count in border(code, light, heavy).counts]
            told = nearest(code, counts)
            self.assertEqual((told.many, told.light, told.heavy, told.sign), (1, light, heavy, heavy[0]))
            self.assertEqual((slack(code, counts), is_only(code, counts)), (0, False))
            more = [count + (sign == light[0]) for sign, count in enumerate(counts)]
            self.assertEqual((slack(code, more), is_only(code, more)), (1, True))

    def test_counts_like_the_widths(self):
        for lengths in ([4] * 16, [*range(1, 26), 25], [5] * 22 + [4] * 3 + [3]):
            code = Code(lengths)
            counts = [2 ** (25 - length) for length in lengths]
            # Each light bunch weighs twice as much as a heavy one: the narrowest ones tell the slack.
            self.assertEqual(slack(code, counts), 2 ** (25 - code.longest))
            self.assertIs(is_only(code, counts), True)


class NearestTest(unittest.TestCase):
    def test_rows(self):
        for code, counts in small_cases():
            told = nearest(code, counts)
            rows = rows_by_trial(code.lengths)
            if rows:
                self.assertIn((told.light, told.heavy), rows)
                self.assertEqual(slack_by_trial(code.lengths, counts, (told.light, told.heavy)), told.many - 1)
                self.assertEqual(told.many, slack(code, counts) + 1)
                self.assertIn(told.sign, told.heavy)
                more = [count + told.many * (sign == told.sign) for sign, count in enumerate(counts)]
                self.assertFalse(is_least_by_trial(code, more))
                self.assertTrue(is_near(code, counts, told.many, told.light, told.heavy))
            else:
                self.assertIs(told.many, None)

    def test_by_raising_one_by_one(self):
        for code, counts in small_cases():
            if code.size in (3, 4):
                told = nearest(code, counts)
                for many in range(min(told.many, 5)):
                    for more in raises_by(many, code.size):
                        self.assertTrue(is_least_by_trial(code, [one + other for one, other in zip(counts, more)]))

    def test_many_signs(self):
        for many in (12, 25, 26):
            for most in (3, 50, GREAT):
                counts = [CHANCE.randint(0, most) for _ in range(many)]
                code = joined(counts, "old").code
                told = nearest(code, counts)
                self.assertTrue(is_near(code, counts, told.many, told.light, told.heavy))
                for by in (told.many - 1, told.many):
                    more = [count + by * (sign == told.sign) for sign, count in enumerate(counts)]
                    self.assertEqual(isinstance(judge(code, more), Least), by < told.many)
                for _ in range(50):
                    more = list(counts)
                    for _ in range(min(told.many - 1, 40)):
                        more[CHANCE.randrange(many)] += 1
                    self.assertIsInstance(judge(code, more), Least)

    def test_equal_calls(self):
        one = nearest(Code([2, 2, 2, 2]), [1, 1, 1, 1])
        other = nearest(Code([2, 2, 2, 2]), (1, 1, 1, 1))
        self.assertEqual(vars(one), vars(other))
        self.assertTrue(one.light.__class__ is tuple and one.heavy.__class__ is tuple)

    def test_arguments_are_not_changed(self):
        counts, light, heavy = [4, 2, 1, 1], [0], [1]
        for call in ALL:
            call(Code([1, 2, 3, 3]), counts)
        is_near(Code([1, 2, 3, 3]), counts, 3, light, heavy)
        self.assertEqual((counts, light, heavy), ([4, 2, 1, 1], [0], [1]))


class IsNearTest(unittest.TestCase):
    def takes(self, *args):
        told = is_near(*args)
        self.assertIn(told, (True, False))
        return told

    def test_all_pairs_of_sets(self):
        cases = [([2, 2, 2, 2], (1, 1, 1, 1)), ([1, 2, 3, 3], (4, 2, 1, 1)), ([1, 2, 3, 3], (5, 2, 1, 1))]
        for lengths, counts in [*cases, ([2, 2, 2, 3, 3], (2, 2, 2, 1, 1)), ([2, 2, 2, 3, 3], (3, 2, 2, 1, 1))]:
            code, rows = Code(lengths), rows_by_trial(tuple(lengths))
            least = min(slack_by_trial(lengths, counts, row) for row in rows)
            for light, heavy in itertools.product(subsets(len(lengths)), repeat=2):
                for many in range(5):
                    wanted = (light, heavy) in rows and many - 1 == least
                    wanted = wanted and slack_by_trial(lengths, counts, (light, heavy)) == least
                    self.assertEqual(self.takes(code, counts, many, light, heavy), wanted)
                    self.assertEqual(self.takes(code, counts, many, list(light)[::-1], list(heavy)[::-1]), wanted)

    def test_lists_in_any_order(self):
        code, counts = Code([2, 2, 2, 2]), [1, 1, 1, 1]
        for light in ([0, 1], [1, 0], (1, 0), [0, 2]):
            self.assertTrue(self.takes(code, counts, 2, light, [3]))
        for light in ([0, 0], [0, 1, 1], [1, 0, 0], [0, 3], [0], [], [0, 4], [-1, 0], [0, True], [False, 1], "01"):
            self.assertFalse(self.takes(code, counts, 2, light, [3]))
        for heavy in ([3, 3], [0], [], [4], [-1], [True], 3, [2, 3]):
            self.assertFalse(self.takes(code, counts, 2, [0, 1], heavy))

    def test_other_rows(self):
        # A row that is no border, with as little slack as any: no counts at all.
        code = Code([2, 2, 3, 3, 3, 3])
        self.assertTrue(self.takes(code, [0] * 6, 1, [0, 1], [2, 3]))
        self.assertFalse(self.takes(code, [0] * 6, 1, [0, 1], [2]))
        self.assertTrue(self.takes(Code([3] * 8), [0] * 8, 1, [3, 2, 1, 0], [7, 4]))
        self.assertFalse(self.takes(Code([3] * 8), [1] * 8, 3, [3, 2, 1, 0], [7, 4]))

    def test_any_values(self):
        code, counts = Code([2, 2, 2, 2]), [1, 1, 1, 1]
        mixed = [[0, None], ["1", 0], [(0,), 1], [0, [1]], [None, 1], [0, code], (code, 1)]
        for value in [*any_values(), deep(10), [None], [[0], [1]], {0: 1}, *mixed]:
            self.assertFalse(self.takes(code, counts, 2, value, [3]))
            if value not in ([3], (3,)):
                self.assertFalse(self.takes(code, counts, 2, [0, 1], value))
            self.assertFalse(self.takes(code, counts, value, [0, 1], [3]))
        tie = [1, 1, 1, 2]
        self.assertTrue(self.takes(code, tie, 1, [0, 1], [3]))
        self.assertFalse(self.takes(code, tie, True, [0, 1], [3]))


class TakenTest(unittest.TestCase):
    def test_rows_whose_heavy_weighs_something(self):
        for code, counts in small_cases():
            slacks = [
                slack_by_trial(code.lengths, counts, row) for row in rows_by_trial(code.lengths)
                if weight(counts, row[1]) > 0
            ]
            self.assertEqual(taken(code, counts), min(slacks) + 1 if slacks else None)

    def test_by_taking_all_ways(self):
        for counts in [*itertools.product(range(4), repeat=3), *itertools.product((0, 1, 2), repeat=4)]:
            lost = {}
            for rest in itertools.product(*[range(count + 1) for count in counts]):
                for lengths in set(least_by_trial(counts)) - set(least_by_trial(rest)):
                    lost[lengths] = min(lost.get(lengths, 99), sum(counts) - sum(rest))
            for lengths in least_by_trial(counts):
                self.assertEqual(taken(Code(lengths), counts), lost.get(lengths))

    def test_none(self):
        self.assertIsNone(taken(Code([1, 2, 2]), [5, 0, 0]))
        self.assertIsNone(taken(Code([2, 2, 2, 2]), [0, 0, 0, 0]))
        self.assertEqual(taken(Code([1, 2, 2]), [5, 1, 0]), 5)
        self.assertIsNone(taken(Code([4] * 16), [0] * 16))
        self.assertEqual(taken(Code([4] * 16), [GREAT] * 16), GREAT + 1)


class UntilTest(unittest.TestCase):
    def test_by_trial(self):
        for many, rows in ((3, itertools.product(range(4), repeat=3)), (4, itertools.product((0, 1, 4), repeat=4))):
            for counts in rows:
                for one, other in itertools.product(lengths_of_all(many), repeat=2):
                    told = until(Code(one), counts, Code(other))
                    self.assertEqual(told, self.by_trial(one, counts, other))
                    self.assertIs(told.__class__, tuple)

    def by_trial(self, one, counts, other):
        if cost_by_trial(other, counts) <= cost_by_trial(one, counts):
            return 0, None
        for many in itertools.count(1):
            for sign in range(len(counts)):
                more = [count + many * (at == sign) for at, count in enumerate(counts)]
                if cost_by_trial(other, more) <= cost_by_trial(one, more):
                    return many, sign

    def test_great_numbers(self):
        one, other = Code([*range(1, 26), 25]), Code([25, *range(25, 0, -1)])
        counts = [GREAT] + [0] * 25
        told = until(one, counts, other)
        self.assertEqual(told, (GREAT, 25))
        self.assertEqual(until(one, [GREAT] * 26, other), (0, None))
        self.assertEqual(until(Code([1, 2, 2]), [10, 1, 0], Code([2, 2, 1])), (10, 2))
        self.assertEqual(until(Code([1, 3, 3, 2]), [7, 0, 0, 0], Code([3, 1, 3, 2])), (7, 1))
        self.assertEqual(until(Code([1, 2, 3, 3]), [7, 0, 0, 0], Code([2, 3, 3, 1])), (4, 3))

    def test_words_do_not_matter(self):
        self.assertEqual(until(Code([1, 2, 2]), [9, 0, 0], Code([1, 2, 2], ["1", "00", "01"])), (0, None))

    def test_errors(self):
        code, other = Code([1, 2, 2]), Code([2, 2, 2, 2])
        for many in (0, 1, 27):
            self.assertEqual(fields(raised(until, code, [None] * many, other)), ("TooMany", "signs", many, 26))
        self.assertEqual(fields(raised(until, code, [1, 2, 3, None], other)), ("BadCount", 3))
        self.assertEqual(fields(raised(until, code, [1, 2, 3, 4], other)), ("OtherSize", 4, 3))
        self.assertEqual(fields(raised(until, code, [1, 2], other)), ("OtherSize", 2, 3))
        self.assertEqual(fields(raised(until, code, [1, 2, 3], other)), ("OtherSize", 3, 4))
        self.assertIsNone(raised(until, code, [1, 2, 3], code))


class ErrorsTest(unittest.TestCase):
    def calls(self):
        return [*ALL, lambda code, counts: is_near(code, counts, None, None, None)]

    def test_errors(self):
        code = Code([1, 2, 2])
        for call in self.calls():
            for many in (0, 1, 27):
                self.assertEqual(fields(raised(call, code, [None] * many)), ("TooMany", "signs", many, 26))
            for value in [-1, *no_integers()]:
                self.assertEqual(fields(raised(call, code, [1, value])), ("BadCount", 1))
            self.assertEqual(fields(raised(call, code, [1, 9])), ("OtherSize", 2, 3))
            self.assertEqual(fields(raised(call, code, (1, 9, 1, 1))), ("OtherSize", 4, 3))
            self.assertEqual(fields(raised(call, code, [1, 9, 1])), ("NotLeast",))

    def test_not_least(self):
        for counts in itertools.product(range(3), repeat=4):
            right = least_by_trial(counts)
            for lengths in lengths_of_all(4):
                for call in self.calls():
                    error = raised(call, Code(lengths), counts)
                    self.assertEqual(error is None, lengths in right)
                    if error is not None:
                        self.assertEqual(fields(error), ("NotLeast",))

    def test_cost_of_the_row(self):
        # What a row lacks is what the code beyond it costs more.
        for code, counts in small_cases():
            told = nearest(code, counts)
            if told.many is not None:
                other = [
                    length + (sign in told.light) - (sign in told.heavy) for sign, length in enumerate(code.lengths)
                ]
                self.assertEqual(cost(Code(other), counts) - cost(code, counts), told.many - 1)


if __name__ == "__main__":
    unittest.main()
