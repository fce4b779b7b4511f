import itertools
import random
import unittest

from leastjoined.codes import Code, all_codes, cost
from leastjoined.common import Apart, Common, common, is_apart, is_common, is_plan, plan
from leastjoined.joining import joined, least_cost
from leastjoined.least import Least, judge
from trial import least_by_trial, lengths_of_all
from values import GREAT, any_values, deep, fields, no_integers, raised

CHANCE = random.Random(12)


def shared(rows):
    """The lengths of all codes that are least for all rows."""
    found = set(least_by_trial(rows[0]))
    for row in rows[1:]:
        found &= set(least_by_trial(row))
    return found


def some_rows(many, size, most):
    return [[CHANCE.randint(0, most) for _ in range(many)] for _ in range(size)]


def beginnings(many, text):
    return [[text[:size].count(sign) for sign in range(many)] for size in range(len(text) + 1)]


def fewest_codes(many, text, first):
    """As few codes as can be, by a look at all ways to part the sizes."""
    rows = beginnings(many, text)
    fewest = {len(text) + 1: 0}
    for start in range(len(text), first - 1, -1):
        fewest[start] = min(
            fewest[end] + 1 for end in range(start + 1, len(text) + 2) if shared(rows[start:end])
        )
    return fewest[first]


def changed(row, at, part):
    return [*row[:at], part, *row[at + 1:]]


class CommonTest(unittest.TestCase):
    def check(self, rows):
        told = common(rows)
        self.assertEqual(told.rows, tuple(tuple(row) for row in rows))
        right = shared(rows)
        if right:
            self.assertIsInstance(told, Common)
            self.assertIn(told.code.lengths, right)
            self.assertIs(is_common(told), True)
        else:
            self.assertIsInstance(told, Apart)
            self.assertEqual(told.whole, least_cost([sum(counts) for counts in zip(*rows)]))
            self.assertEqual(told.parts, tuple(least_cost(row) for row in rows))
            self.assertGreater(told.whole, sum(told.parts))
            self.assertIs(is_apart(told), True)
        return told.__class__

    def test_against_all_codes(self):
        seen = []
        for many, size, most in itertools.product((2, 3, 4, 5), (1, 2, 3), (1, 2, 5)):
            for _ in range(12):
                seen.append(self.check(some_rows(many, size, most)))
        for rows in itertools.product(itertools.product(range(3), repeat=3), repeat=2):
            seen.append(self.check(rows))
        self.assertGreater(min(seen.count(Common), seen.count(Apart)), 50)

    def test_seven_signs(self):
        for size, most in ((1, 9), (2, 1), (3, 2), (2, 9)):
            self.check(some_rows(7, size, most))

    def test_many_signs(self):
        counts = [CHANCE.randint(0, GREAT) for _ in range(26)]
        told = common([counts, [2 * count for count in counts], [0] * 26])
        self.assertIsInstance(told, Common)
        self.assertTrue(all(isinstance(judge(told.code, row), Least) for row in told.rows))
        apart = common([counts, counts[::-1]])
        self.assertIs(is_apart(apart), True)

    def test_many_rows(self):
        rows = [[1, 1, 1, at % 2] for at in range(2000)]
        self.assertIs(is_common(common(rows)), True)
        rows[1999] = [9, 1, 1, 0]
        self.assertIs(is_apart(common(rows)), True)

    def test_errors(self):
        for size in (0, 2001, 3000):
            self.assertEqual(fields(raised(common, [[None]] * size)), ("TooMany", "rows", size, 2000))
        self.assertIsNone(raised(common, [(1, 2)] * 2000))
        for many in (0, 1, 27):
            error = raised(common, [[1, 2], [1] * many, [None, 1], [1, 2, 3]])
            self.assertEqual(fields(error), ("TooMany", "signs", many, 26))
            self.assertEqual(fields(raised(common, [[None] * many])), ("TooMany", "signs", many, 26))
        for value in [-1, *no_integers()]:
            self.assertEqual(fields(raised(common, [[1, value], [1, 2, 3], [1]])), ("BadCount", 1))
            self.assertEqual(fields(raised(common, [[1, 2], [1, 2, value]])), ("BadCount", 2))
        self.assertEqual(fields(raised(common, [[1, 2], (1, 2, 3), [None, 1]])), ("OtherSize", 3, 2))
        self.assertEqual(fields(raised(common, [[1, 2, 3], [1, 2, 3], [1, 2]])), ("OtherSize", 2, 3))

    def test_rows_are_copied(self):
        rows = [[1, 0, 0], [1, 1, 0]]
        told = common(rows)
        rows[0][0] = 9
        rows.append([1, 1, 1])
        self.assertEqual(told.rows, ((1, 0, 0), (1, 1, 0)))
        self.assertEqual((rows[0], rows[2]), ([9, 0, 0], [1, 1, 1]))

    def test_equal_calls(self):
        one, other = common([[1, 0, 0], [1, 1, 0]]), common(((1, 0, 0), (1, 1, 0)))
        self.assertTrue(one.code == other.code)
        apart = [common([[1, 0, 0], [1, 2, 0]]), common(((1, 0, 0), [1, 2, 0]))]
        self.assertEqual(vars(apart[0]), vars(apart[1]))


class IsCommonTest(unittest.TestCase):
    def takes(self, *args):
        told = is_common(Common(*args))
        self.assertIn(told, (True, False))
        return told

    def test_all_codes(self):
        for rows in ([[1, 0, 0], [1, 1, 0]], [[1, 1, 1, 1], [2, 1, 1, 1]], [[3, 2, 1, 1], [2, 3, 1, 1]], [[0, 0, 0]]):
            for code in all_codes(len(rows[0])):
                self.assertEqual(self.takes(rows, code), code.lengths in shared(rows))
                self.assertEqual(self.takes(tuple(rows), code), code.lengths in shared(rows))

    def test_other_codes(self):
        for code in [Code([1, 1]), Code([2, 2, 2, 2]), *any_values()]:
            self.assertFalse(self.takes([[1, 1, 1]], code))
        self.assertTrue(self.takes([[1, 1, 1]], Code([1, 2, 2], ["1", "00", "01"])))

    def test_errors(self):
        code = Code([1, 2, 2])
        for call, made in ((is_common, lambda rows: Common(rows, code)), (is_apart, lambda rows: Apart(rows, 9, [1]))):
            self.assertEqual(fields(raised(call, made([]))), ("TooMany", "rows", 0, 2000))
            self.assertEqual(fields(raised(call, made([[1, 1]] * 2001))), ("TooMany", "rows", 2001, 2000))
            self.assertEqual(fields(raised(call, made([[1, 1], [1]]))), ("TooMany", "signs", 1, 26))
            self.assertEqual(fields(raised(call, made([[1, 1], [1, None, 1]]))), ("BadCount", 1))
            self.assertEqual(fields(raised(call, made([[1, 1], [1, 1, 1]]))), ("OtherSize", 3, 2))
            self.assertIsNone(raised(call, made([[1, 1]])))

    def test_fields(self):
        rows = [[1, [2]], "x"]
        told = Common(rows, None)
        rows[0].append(3)
        self.assertEqual((told.rows, told.code), (((1, (2,)), "x"), None))


class IsApartTest(unittest.TestCase):
    def takes(self, *args):
        told = is_apart(Apart(*args))
        self.assertIn(told, (True, False))
        return told

    def test_one_thing_otherwise(self):
        rows = [[1, 0, 0], [1, 1, 0], [1, 2, 0]]
        self.assertTrue(self.takes(rows, 9, [1, 3, 4]))
        self.assertTrue(self.takes(rows, 9, (1, 3, 4)))
        for whole in (8, 10, -9, GREAT, None, "9", (9,), True):
            self.assertFalse(self.takes(rows, whole, (1, 3, 4)))
        for parts in ((1, 3), (1, 3, 4, 0), (), (1, 3, 3), (3, 1, 4), (True, 3, 4), (1, 3, None), ((1,), 3, 4)):
            self.assertFalse(self.takes(rows, 9, parts))
        for value in [*any_values(), deep(10)]:
            self.assertFalse(self.takes(rows, value, (1, 3, 4)))
            self.assertFalse(self.takes(rows, 9, value))

    def test_rows_with_a_code(self):
        self.assertFalse(self.takes([[1, 0, 0], [1, 1, 0]], 4, (1, 3)))
        self.assertFalse(self.takes([[1, 1]], 2, (2,)))

    def test_fields(self):
        parts = [1, [2]]
        told = Apart([[1]], [5], parts)
        parts.append(3)
        self.assertEqual((told.rows, told.whole, told.parts), (((1,),), (5,), (1, (2,))))


class PlanTest(unittest.TestCase):
    def check(self, many, text, first):
        told = plan(many, text, first)
        self.assertTrue(told.codes.__class__ is tuple and told.stops.__class__ is tuple)
        self.assertTrue(all(pair.__class__ is tuple for pair in (*told.codes, *told.stops)))
        rows = beginnings(many, text)
        sizes = [size for size, _ in told.codes]
        self.assertEqual(sizes[0], first)
        self.assertEqual(sizes, sorted(set(sizes)))
        for (size, code), end in zip(told.codes, [*sizes[1:], len(text) + 1]):
            self.assertEqual(code.size, many)
            for row in rows[size:end]:
                self.assertEqual(cost(code, row), least_cost(row))
        self.assertEqual(len(told.stops), len(told.codes) - 1)
        ahead = first
        for start, size in told.stops:
            self.assertTrue(ahead <= start < size <= len(text))
            self.assertIsInstance(common(rows[start:size + 1]), Apart)
            ahead = size
        self.assertIs(is_plan(many, text, first, told.codes, told.stops), True)
        return told

    def test_short_texts(self):
        for many in (2, 3, 4):
            for size in range(9):
                for _ in range(4):
                    text = [CHANCE.randrange(many) for _ in range(size)]
                    for first in {0, size // 2, size}:
                        told = self.check(many, text, first)
                        self.assertEqual(len(told.codes), fewest_codes(many, text, first))

    def test_all_short_texts(self):
        for text in itertools.product(range(3), repeat=5):
            told = self.check(3, text, 0)
            self.assertEqual(len(told.codes), fewest_codes(3, text, 0))

    def test_no_text(self):
        told = self.check(26, [], 0)
        self.assertEqual((len(told.codes), told.codes[0][0], told.stops), (1, 0, ()))

    def test_long_texts(self):
        for many, size in ((2, 300), (5, 300), (26, 300), (9, 2000)):
            text = [min(CHANCE.randrange(many), CHANCE.randrange(many)) for _ in range(size)]
            for first in (0, 1, size - 1, size):
                told = plan(many, text, first)
                self.assertIs(is_plan(many, text, first, told.codes, told.stops), True)
        self.check(6, [CHANCE.randrange(6) for _ in range(120)], 3)

    def test_arguments_are_not_changed(self):
        text = [0, 1, 1, 0, 2]
        one, other = plan(3, text, 1), plan(3, tuple(text), 1)
        self.assertEqual(text, [0, 1, 1, 0, 2])
        self.assertEqual(one.stops, other.stops)
        words = [[(size, code.words) for size, code in told.codes] for told in (one, other)]
        self.assertEqual(words[0], words[1])

    def test_errors(self):
        for call in (plan, lambda *args: is_plan(*args, None, None)):
            for many in [1, 0, 27, -1, GREAT, *no_integers()]:
                error = raised(call, many, [None] * 2001, None)
                self.assertEqual(fields(error), ("TooMany", "signs", many, 26))
                self.assertIs(error.many.__class__, many.__class__)
            for size in (2001, 5000):
                self.assertEqual(fields(raised(call, 2, [None] * size, None)), ("TooMany", "letters", size, 2000))
            for value in [3, -1, GREAT, *no_integers()]:
                self.assertEqual(fields(raised(call, 3, [value], None)), ("BadSign", 0))
                self.assertEqual(fields(raised(call, 3, [0, 2, value, value], None)), ("BadSign", 2))
            for value in [-1, 4, GREAT, *no_integers()]:
                error = raised(call, 3, [0, 1, 2], value)
                self.assertEqual(fields(error), ("BadSize", value))
                self.assertIs(error.size.__class__, value.__class__)
            for first in range(4):
                self.assertIsNone(raised(call, 3, (0, 1, 2), first))
            self.assertIsNone(raised(call, 26, [25] * 2000, 2000))
            self.assertIsNone(raised(call, 2, [], 0))


class IsPlanTest(unittest.TestCase):
    def setUp(self):
        self.many, self.text, self.first = 3, [0, 1, 1, 0, 2, 2, 2], 1
        told = plan(self.many, self.text, self.first)
        self.codes, self.stops = list(told.codes), list(told.stops)

    def takes(self, codes, stops):
        told = is_plan(self.many, self.text, self.first, codes, stops)
        self.assertIn(told, (True, False))
        return told

    def test_right(self):
        self.assertGreater(len(self.codes), 2)
        self.assertTrue(self.takes(self.codes, self.stops))
        self.assertTrue(self.takes(tuple(self.codes), tuple(self.stops)))
        self.assertTrue(self.takes([list(pair) for pair in self.codes], [list(pair) for pair in self.stops]))

    def test_all_sizes_and_codes(self):
        rows = beginnings(self.many, self.text)
        for at, (size, _) in enumerate(self.codes):
            ahead = self.codes[at - 1] if at > 0 else None
            end = self.codes[at + 1][0] if at + 1 < len(self.codes) else len(self.text) + 1
            for other in range(-1, 10):
                for code in all_codes(3):
                    wanted = self.first <= other < end and (at > 0 or other == self.first)
                    wanted = wanted and code.lengths in shared(rows[other:end])
                    if ahead is not None:
                        wanted = wanted and ahead[0] < other and ahead[1].lengths in shared(rows[ahead[0]:other])
                    self.assertEqual(self.takes(changed(self.codes, at, (other, code)), self.stops), wanted)

    def test_all_stops(self):
        rows = beginnings(self.many, self.text)
        for at in range(len(self.stops)):
            low = self.stops[at - 1][1] if at > 0 else self.first
            high = self.stops[at + 1][0] if at + 1 < len(self.stops) else len(self.text)
            for start, size in itertools.product(range(-1, 10), repeat=2):
                wanted = low <= start < size <= high and not shared(rows[start:size + 1])
                self.assertEqual(self.takes(self.codes, changed(self.stops, at, (start, size))), wanted)

    def test_more_and_fewer(self):
        for at in range(len(self.codes)):
            self.assertFalse(self.takes(self.codes[:at] + self.codes[at + 1:], self.stops))
            self.assertFalse(self.takes(self.codes[:at] + [self.codes[at]] + self.codes[at:], self.stops))
            self.assertFalse(self.takes(self.codes[:at] + self.codes[at + 1:], self.stops[1:]))
        for at in range(len(self.stops)):
            self.assertFalse(self.takes(self.codes, self.stops[:at] + self.stops[at + 1:]))
            self.assertFalse(self.takes(self.codes, self.stops + self.stops[at:at + 1]))
        self.assertFalse(self.takes([], []))
        # One code more than is needed: there are no stops that show that it is.
        middle = [(self.first, self.codes[0][1]), (self.first + 1, self.codes[0][1]), *self.codes[1:]]
        for start, size in itertools.combinations(range(1, 8), 2):
            for at in range(len(self.codes)):
                self.assertFalse(self.takes(middle, [*self.stops[:at], (start, size), *self.stops[at:]]))

    def test_other_codes(self):
        for value in [*any_values(), Code([1, 1]), Code([2, 2, 2, 2]), (1, 2, 2)]:
            for at, (size, _) in enumerate(self.codes):
                self.assertFalse(self.takes(changed(self.codes, at, (size, value)), self.stops))
        worded = [(size, Code(code.lengths, ["".join("10"[int(bit)] for bit in word) for word in code.words]))
                  for size, code in self.codes]
        self.assertTrue(self.takes(worded, self.stops))

    def test_any_values(self):
        for value in [*any_values(), deep(10), [1, 2], (1,), (1, 2, 3), "ab"]:
            self.assertFalse(self.takes(value, self.stops))
            self.assertFalse(self.takes(self.codes, value))
            for at in range(len(self.codes)):
                self.assertFalse(self.takes(changed(self.codes, at, value), self.stops))
            for at in range(len(self.stops)):
                if value != [1, 2]:
                    self.assertFalse(self.takes(self.codes, changed(self.stops, at, value)))
        for value in no_integers():
            self.assertFalse(self.takes(changed(self.codes, 0, (value, self.codes[0][1])), self.stops))
            self.assertFalse(self.takes(self.codes, changed(self.stops, 0, (value, self.stops[0][1]))))
            self.assertFalse(self.takes(self.codes, changed(self.stops, 0, (self.stops[0][0], value))))

    def test_dicts_are_no_lists(self):
        self.assertFalse(is_plan(3, [], 0, {0: (0, Code([1, 2, 2]))}, []))
        self.assertFalse(is_plan(3, [], 0, [(0, Code([1, 2, 2]))], {}))
        self.assertTrue(is_plan(3, [], 0, [(0, Code([1, 2, 2]))], []))
        self.assertTrue(all(is_plan(3, [], 0, [[0, code]], ()) for code in all_codes(3)))
        self.assertEqual(len(lengths_of_all(3)), 3)
        self.assertEqual(joined([0, 0, 0], "old").code.lengths, plan(3, [], 0).codes[0][1].lengths)


if __name__ == "__main__":
    unittest.main()
