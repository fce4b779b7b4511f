import itertools
import random
import unittest
from math import comb

from leastjoined.borders import (
    Border, border, borders, bunches, is_border, number_of_borders, number_of_bunches, parts,
)
from leastjoined.codes import Code, all_codes
from leastjoined.least import Least, judge
from trial import (
    borders_by_trial, bunches_by_trial, least_by_trial, lengths_of_all, rows_by_trial, slack_by_trial, subsets, weight,
)
from values import GREAT, any_values, deep, fields, no_integers, raised

CHANCE = random.Random(9)
STEEP = [*range(1, 26), 25]
FLAT = [5] * 20 + [4] * 6
MIXED = [5] * 22 + [4] * 3 + [3]
MANY = [STEEP, FLAT, MIXED, [4] * 16, [3] * 4 + [4] * 4 + [5] * 8, [2, 2] + [4] * 4 + [5] * 6 + [6] * 4]


def beyond(lengths, light, heavy):
    return tuple(length + (sign in light) - (sign in heavy) for sign, length in enumerate(lengths))


def bunches_by_weight(lengths, weights, left_out=()):
    """For each k a dict from weights to how many bunches at k have them, added sign by sign."""
    longest = max(lengths)
    rows, sums = [None] * (longest + 1), {(0, 0): 1}
    for level in range(longest, -1, -1):
        sums = {(width // 2, worth): many for (width, worth), many in sums.items() if width % 2 == 0}
        for sign, length in enumerate(lengths):
            if length == level and sign not in left_out:
                more = dict(sums)
                for (width, worth), many in sums.items():
                    key = (width + 1, worth + weights[sign])
                    more[key] = more.get(key, 0) + many
                sums = more
        rows[level] = {worth: many for (width, worth), many in sums.items() if width == 1}
    return rows


def borders_that_fail(lengths, counts):
    """How many borders hold with equal weights, and how many do not hold, without a list of them."""
    equal = broken = 0
    found = bunches_by_weight(lengths, counts)
    for sign, length in enumerate(lengths):
        if length < max(lengths):
            for worth, many in found[length + 1].items():
                equal += many * (worth == counts[sign])
                broken += many * (worth > counts[sign])
        others = bunches_by_weight(lengths, counts, (sign,))[length - 1]
        for other, bits in enumerate(lengths):
            # The single signs among them are counted above.
            if bits == length - 1:
                others[counts[other]] -= 1
        for worth, many in others.items():
            equal += many * (worth == counts[sign])
            broken += many * (worth < counts[sign])
    return equal, broken


def some_border(lengths):
    """A border of a code of many signs, by chance."""
    while True:
        single = CHANCE.randrange(len(lengths))
        above = CHANCE.random() < 0.5
        level = lengths[single] + (1 if above else -1)
        left, bunch = 2 ** 30 >> level, []
        order = list(range(len(lengths)))
        CHANCE.shuffle(order)
        for sign in order:
            width = 2 ** 30 >> lengths[sign]
            if sign != single and width <= left and lengths[sign] >= level:
                bunch.append(sign)
                left -= width
        if left == 0:
            bunch = tuple(sorted(bunch))
            return ((single,), bunch) if above else (bunch, (single,))


class BunchesTest(unittest.TestCase):
    def test_small_codes(self):
        for many in range(2, 7):
            for code in all_codes(many):
                for level, wanted in enumerate(bunches_by_trial(code.lengths)):
                    told = bunches(code, level)
                    self.assertEqual(told, tuple(wanted))
                    self.assertEqual(number_of_bunches(code, level), len(wanted))

    def test_kinds(self):
        told = bunches(Code([1, 2, 2]), 1)
        self.assertEqual(told, ((0,), (1, 2)))
        self.assertIs(told.__class__, tuple)
        self.assertTrue(all(bunch.__class__ is tuple for bunch in told))
        self.assertEqual(bunches(Code([1, 2, 2], ["1", "01", "00"]), 1), told)
        self.assertEqual(bunches(Code([1, 2, 2]), 0), ((0, 1, 2),))

    def test_many_signs(self):
        for lengths in MANY:
            found = bunches_by_weight(lengths, [0] * len(lengths))
            for level in range(max(lengths) + 1):
                many = number_of_bunches(Code(lengths), level)
                self.assertEqual(many, found[level].get(0, 0))
                if many <= 5000:
                    told = bunches(Code(lengths), level)
                    self.assertEqual(len(told), many)
                    self.assertEqual(list(told), sorted(set(told)))
                    for bunch in told:
                        self.assertEqual(sum(2 ** 25 >> lengths[sign] for sign in bunch), 2 ** 25 >> level)
                        self.assertEqual(list(bunch), sorted(set(bunch)))
                else:
                    error = raised(bunches, Code(lengths), level)
                    self.assertEqual(fields(error), ("TooMany", "bunches", many, 5000))

    def test_sixteen_words_of_four_bits(self):
        code = Code([4] * 16)
        self.assertEqual([number_of_bunches(code, level) for level in range(5)], [1, comb(16, 8), comb(16, 4), 120, 16])
        self.assertEqual(fields(raised(bunches, code, 1)), ("TooMany", "bunches", comb(16, 8), 5000))
        self.assertEqual(bunches(code, 2), tuple(itertools.combinations(range(16), 4)))

    def test_bad_levels(self):
        for code in (Code([1, 1]), Code([1, 2, 3, 3]), Code([4] * 16)):
            for value in [-1, -GREAT, code.longest + 1, 26, GREAT, *no_integers()]:
                for call in (number_of_bunches, bunches):
                    error = raised(call, code, value)
                    self.assertEqual(fields(error), ("BadSize", value))
                    self.assertIs(error.size.__class__, value.__class__)
            for level in range(code.longest + 1):
                self.assertIsNone(raised(number_of_bunches, code, level))


class BordersTest(unittest.TestCase):
    def test_small_codes(self):
        for many in range(2, 7):
            for code in all_codes(many):
                wanted = tuple(borders_by_trial(code.lengths))
                self.assertEqual(borders(code), wanted)
                self.assertEqual(number_of_borders(code), len(wanted))
        self.assertEqual([borders(Code([1, 1])), number_of_borders(Code([1, 1]))], [(), 0])

    def test_eight_signs(self):
        for lengths in ((3,) * 8, (2, 2, 3, 3, 4, 4, 4, 4), (1, 3, 3, 3, 4, 5, 6, 6), (1, 2, 3, 4, 5, 6, 7, 7)):
            wanted = tuple(borders_by_trial(lengths))
            self.assertEqual(borders(Code(lengths)), wanted)
            self.assertEqual(number_of_borders(Code(lengths)), len(wanted))

    def test_kinds(self):
        told = borders(Code([1, 2, 2]))
        self.assertEqual(told, (((0,), (1,)), ((0,), (2,))))
        self.assertTrue(all(part.__class__ is tuple for row in told for part in (row, *row)))
        self.assertIs(told.__class__, tuple)

    def test_many_signs(self):
        for lengths in MANY:
            many = number_of_borders(Code(lengths))
            # With no counts at all each border holds with equal weights.
            self.assertEqual(borders_that_fail(lengths, [0] * len(lengths)), (many, 0))
            if many <= 5000:
                told = borders(Code(lengths))
                self.assertEqual(len(told), many)
                self.assertEqual(list(told), sorted(set(told)))
            else:
                self.assertEqual(fields(raised(borders, Code(lengths))), ("TooMany", "borders", many, 5000))
        self.assertEqual(number_of_borders(Code([4] * 16)), 16 * comb(15, 2))

    def test_the_greatest_number_that_is_listed(self):
        for lengths in ([4] * 16, [4] * 15 + [5, 5], [4] * 14 + [5] * 4, [4] * 13 + [5] * 6, [4] * 12 + [5] * 8):
            many = number_of_borders(Code(lengths))
            if many > 5000:
                self.assertEqual(fields(raised(borders, Code(lengths))), ("TooMany", "borders", many, 5000))
            else:
                self.assertEqual(len(borders(Code(lengths))), many)


class BorderTest(unittest.TestCase):
    def test_small_codes(self):
        for many in range(3, 7):
            for code in all_codes(many)[::1 if many < 6 else 7]:
                for light, heavy in borders_by_trial(code.lengths):
                    told = border(code, light, heavy)
                    self.assertTrue(told.code == code)
                    self.assertEqual((told.light, told.heavy), (light, heavy))
                    self.assertEqual(told.other.lengths, beyond(code.lengths, light, heavy))
                    self.assertTrue(told.other == Code(told.other.lengths))
                    self.assertTrue(all(count.__class__ is int and count >= 1 for count in told.counts))
                    self.assertEqual(set(least_by_trial(told.counts)), {code.lengths, told.other.lengths})
                    self.assertIs(is_border(told), True)

    def test_many_signs(self):
        for lengths in MANY:
            for _ in range(12):
                light, heavy = some_border(lengths)
                told = border(Code(lengths), light, heavy)
                self.assertEqual(weight(told.counts, light), weight(told.counts, heavy))
                self.assertEqual(borders_that_fail(lengths, told.counts), (1, 0))
                self.assertGreaterEqual(min(told.counts), 1)
                self.assertIsInstance(judge(Code(lengths), told.counts), Least)
                self.assertIsInstance(judge(told.other, told.counts), Least)
                self.assertEqual(told.other.lengths, beyond(lengths, light, heavy))
                if number_of_borders(Code(lengths)) <= 5000:
                    self.assertIs(is_border(told), True)
                else:
                    self.assertEqual(raised(is_border, told).what, "borders")

    def test_rows_that_are_none(self):
        for lengths in ((1, 1), (1, 2, 2), (2, 2, 2, 2), (1, 2, 3, 3), (2, 2, 2, 3, 3), (1, 3, 3, 3, 4, 4)):
            code, right = Code(lengths), borders_by_trial(lengths)
            for light, heavy in itertools.product(subsets(len(lengths)), repeat=2):
                error = raised(border, code, light, heavy)
                self.assertEqual(error is None, (light, heavy) in right)
                if error is not None:
                    self.assertEqual(fields(error), ("NoBorder",))

    def test_other_values(self):
        code = Code([2, 2, 2, 2])
        self.assertIsNone(raised(border, code, (0, 1), (2,)))
        wrong = [[0, 1], (1, 0), (0, 0), (0, 1, 1), (0, True), (False, 1), (0, 1, 2), (0, 4), (-4, 1)]
        for value in [*wrong, *any_values(), deep(10), "01", ((0, 1),), {0: 1, 1: 2}, (0, None), (GREAT, 1)]:
            self.assertEqual(fields(raised(border, code, value, (2,))), ("NoBorder",))
            self.assertEqual(fields(raised(parts, code, value, (2,))), ("NoBorder",))
        for value in [*any_values(), [2], (2, 2), (True,), (4,), (-2,), ((2,),), deep(10), (0,), ("2",), (GREAT,)]:
            if value != (3,):
                self.assertEqual(fields(raised(border, code, (0, 1), value)), ("NoBorder",))
                self.assertEqual(fields(raised(parts, code, (0, 1), value)), ("NoBorder",))

    def test_equal_calls(self):
        one, other = (border(Code([1, 2, 3, 3]), (0,), (2, 3)) for _ in range(2))
        self.assertEqual((one.counts, one.other.words), (other.counts, other.other.words))

    def test_fields(self):
        counts, light = [1, [2]], [0, 1]
        told = Border(Code([1, 1]), light, (2,), counts, None)
        counts.append(3)
        light.append(3)
        self.assertEqual((told.light, told.heavy, told.counts, told.other), ((0, 1), (2,), (1, (2,)), None))


class PartsTest(unittest.TestCase):
    def check(self, lengths, light, heavy):
        told = parts(Code(lengths), light, heavy)
        self.assertEqual((told.__class__, len(told)), (tuple, 2))
        level = None
        for row in told:
            self.assertEqual((row.__class__, len(row)), (tuple, 2))
            self.assertTrue(all(bunch.__class__ is tuple and list(bunch) == sorted(set(bunch)) for bunch in row))
            widths = [sum(2 ** 30 >> lengths[sign] for sign in bunch) for bunch in row]
            self.assertEqual(widths[0], 2 * widths[1])
            self.assertIn(level, (None, widths[0]))
            level = widths[0]
        self.assertEqual(2 * level, sum(2 ** 30 >> lengths[sign] for sign in light))
        self.assertEqual(sorted(told[0][0] + told[1][0]), list(light))
        self.assertEqual(sorted(told[0][1] + told[1][1]), list(heavy))

    def test_all_rows_of_small_codes(self):
        seen = 0
        for many in range(2, 7):
            for lengths in lengths_of_all(many):
                for light, heavy in rows_by_trial(lengths):
                    if len(light) > 1 and len(heavy) > 1:
                        seen += 1
                        self.check(lengths, light, heavy)
                        told = parts(Code(lengths), light, heavy)
                        self.assertTrue(all(row in rows_by_trial(lengths) for row in told))
                    else:
                        self.assertEqual(fields(raised(parts, Code(lengths), light, heavy)), ("NoBorder",))
        self.assertGreater(seen, 100)

    def test_many_signs(self):
        self.check([4] * 16, tuple(range(8)), (9, 11, 13, 15))
        self.check(MIXED, (0, 2, 4, 6, 8, 10, 22, 23, 24, 25), tuple(range(11, 19)))
        self.check(FLAT, tuple(range(4, 20)), (0, 1, 2, 3, 20, 21))
        self.check([3] * 8, (0, 1, 2, 3), (4, 5))

    def test_pairs_that_are_no_row(self):
        for lengths in ((2, 2, 2, 2), (1, 2, 3, 3), (2, 2, 3, 3, 3, 3)):
            right = [row for row in rows_by_trial(lengths) if row not in borders_by_trial(lengths)]
            for light, heavy in itertools.product(subsets(len(lengths)), repeat=2):
                error = raised(parts, Code(lengths), light, heavy)
                self.assertEqual(error is None, (light, heavy) in right)
                if error is not None:
                    self.assertEqual(fields(error), ("NoBorder",))


class IsBorderTest(unittest.TestCase):
    def takes(self, *args):
        told = is_border(Border(*args))
        self.assertIn(told, (True, False))
        return told

    def test_all_counts_that_are_small(self):
        for lengths in ((1, 2, 2), (2, 2, 2, 2), (1, 2, 3, 3)):
            code = Code(lengths)
            for light, heavy in borders_by_trial(lengths):
                other = beyond(lengths, light, heavy)
                for counts in itertools.product(range(0, 6), repeat=len(lengths)):
                    wanted = min(counts) >= 1 and set(least_by_trial(counts)) == {lengths, other}
                    self.assertEqual(self.takes(code, light, heavy, counts, Code(other)), wanted)

    def test_slacks(self):
        lengths = (2, 2, 2, 3, 3)
        for light, heavy in borders_by_trial(lengths):
            counts = border(Code(lengths), light, heavy).counts
            for row in rows_by_trial(lengths):
                slack = slack_by_trial(lengths, counts, row)
                self.assertTrue(slack == 0 if row == (light, heavy) else slack > 0)

    def test_one_thing_otherwise(self):
        code = Code([1, 2, 3, 3])
        told = border(code, (0,), (2, 3))
        self.assertTrue(self.takes(code, [0], [2, 3], list(told.counts), told.other))
        self.assertTrue(self.takes(code, (0,), (2, 3), [count * GREAT for count in told.counts], told.other))
        for counts in (told.counts[:3], (*told.counts, 1), (), (1, 1, 1, 1), (0, 0, 0, 0), [-1, *told.counts[1:]]):
            self.assertFalse(self.takes(code, (0,), (2, 3), counts, told.other))
        for at in range(4):
            for value in [0, -1, *no_integers(), told.counts[at] + 100]:
                counts = [*told.counts[:at], value, *told.counts[at + 1:]]
                self.assertFalse(self.takes(code, (0,), (2, 3), counts, told.other))
        for other in [code, Code([2, 2, 2, 2], ["11", "10", "01", "00"]), Code([1, 1]), (2, 2, 2, 2), *any_values()]:
            self.assertFalse(self.takes(code, (0,), (2, 3), told.counts, other))

    def test_one_is_no_true(self):
        told = Border(Code([1, 2, 2]), (0,), (1,), (2, 2, 1), Code([2, 1, 2]))
        self.assertIs(is_border(told), True)
        self.assertFalse(self.takes(Code([1, 2, 2]), (0,), (1,), (2, 2, True), Code([2, 1, 2])))
        self.assertFalse(self.takes(Code([1, 2, 2]), (False,), (1,), (2, 2, 1), Code([2, 1, 2])))

    def test_rows_that_are_none(self):
        code = Code([1, 2, 3, 3])
        told = border(code, (0,), (2, 3))
        for light, heavy in itertools.product(subsets(4), repeat=2):
            wanted = (light, heavy) == ((0,), (2, 3))
            self.assertEqual(self.takes(code, light, heavy, told.counts, told.other), wanted)
        for value in [*any_values(), deep(10)]:
            self.assertFalse(self.takes(code, value, (2, 3), told.counts, told.other))
            self.assertFalse(self.takes(code, (0,), value, told.counts, told.other))
            self.assertFalse(self.takes(code, (0,), (2, 3), value, told.other))

    def test_too_many(self):
        for lengths in (FLAT, MIXED):
            code = Code(lengths)
            wanted = ("TooMany", "borders", number_of_borders(code), 5000)
            light, heavy = some_border(lengths)
            self.assertEqual(fields(raised(is_border, border(code, light, heavy))), wanted)
            for value in any_values():
                self.assertEqual(fields(raised(is_border, Border(code, value, heavy, [1], None))), wanted)
                self.assertEqual(fields(raised(is_border, Border(code, light, value, [1], None))), wanted)


if __name__ == "__main__":
    unittest.main()
