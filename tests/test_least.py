import itertools
import random
import unittest

from leastjoined.codes import Code, all_codes, cost
from leastjoined.joining import is_joining, joined, least_cost
from leastjoined.least import Better, Least, is_better, is_least, judge, least_codes, levels
from trial import bunches_by_trial, least_by_trial, lengths_of_all, rows_by_trial, subsets, weight
from values import GREAT, any_values, deep, fields, no_integers, raised

CHANCE = random.Random(8)


def counts_of(many):
    """Counts of several sorts for so many signs."""
    rows = [[0] * many, [1] * many, [2 ** at for at in range(many)], [2 ** at for at in reversed(range(many))]]
    rows += [[0] * (many - 1) + [1], [1] + [0] * (many - 1), [GREAT] * many, list(range(many))]
    for most in (1, 2, 4, 9, GREAT):
        rows.append([CHANCE.randint(0, most) for _ in range(many)])
    return rows


def levels_by_trial(code, counts):
    """The entries by the sentence that tells them."""
    entry, told = [], []
    for level in range(code.longest, -1, -1):
        nodes = [(counts[sign], (sign,)) for sign in range(code.size) if len(code.words[sign]) == level]
        for one, other in zip(entry[0::2], entry[1::2]):
            nodes.append((one[0] + other[0], tuple(sorted({*one[1], *other[1]}))))
        entry = sorted(nodes)
        told.insert(0, tuple(entry))
    return tuple(told)


def lengths_beyond(lengths, light, heavy):
    return tuple(length + (sign in light) - (sign in heavy) for sign, length in enumerate(lengths))


def changed(row, at, part):
    return (*row[:at], part, *row[at + 1:])


class LevelsTest(unittest.TestCase):
    def test_levels_by_trial(self):
        for many in range(2, 7):
            for code in all_codes(many)[::5 if many == 6 else 1]:
                for counts in counts_of(many):
                    told = levels(code, counts)
                    self.assertEqual(told, levels_by_trial(code, counts))
                    self.assertEqual(len(told), code.longest + 1)
                    self.assertEqual(told[0], ((sum(counts), tuple(range(many))),))

    def test_levels_of_many_signs(self):
        for lengths in ([4] * 16, [*range(1, 26), 25], [5] * 22 + [4] * 3 + [3], [3] * 4 + [4] * 4 + [5] * 8):
            code = Code(lengths)
            for counts in counts_of(code.size):
                self.assertEqual(levels(code, counts), levels_by_trial(code, counts))

    def test_kinds(self):
        told = levels(Code([1, 2, 2]), [1, 1, 1])
        self.assertEqual(told, (((3, (0, 1, 2)),), ((1, (0,)), (2, (1, 2))), ((1, (1,)), (1, (2,)))))
        self.assertTrue(all(entry.__class__ is tuple for entry in told))
        self.assertTrue(all(node.__class__ is tuple and node[1].__class__ is tuple for entry in told for node in entry))

    def test_words_do_not_matter(self):
        one, other = Code([1, 2, 2]), Code([1, 2, 2], ["1", "01", "00"])
        self.assertEqual(levels(one, [3, 2, 2]), levels(other, (3, 2, 2)))

    def test_nodes_of_a_least_code_are_a_joining(self):
        for counts in itertools.product(range(3), repeat=4):
            for code in least_codes(counts):
                rows = levels(code, counts)
                numbers, steps = {(sign,): sign for sign in range(4)}, []
                for above, below in zip(rows[-2::-1], rows[:0:-1]):
                    for one, other in zip(below[0::2], below[1::2]):
                        bunch = tuple(sorted(one[1] + other[1]))
                        self.assertIn((one[0] + other[0], bunch), above)
                        steps.append((numbers[one[1]], numbers[other[1]], one[0] + other[0]))
                        numbers[bunch] = 3 + len(steps)
                self.assertTrue(is_joining(counts, steps))

    def test_errors(self):
        code = Code([1, 2, 2])
        for call in (levels, judge):
            for many in (0, 1, 27):
                self.assertEqual(fields(raised(call, code, [None] * many)), ("TooMany", "signs", many, 26))
            for value in [-1, *no_integers()]:
                self.assertEqual(fields(raised(call, code, [1, value])), ("BadCount", 1))
                self.assertEqual(fields(raised(call, code, [1, 2, value, -1])), ("BadCount", 2))
            self.assertEqual(fields(raised(call, code, [1, 1])), ("OtherSize", 2, 3))
            self.assertEqual(fields(raised(call, code, (1, 1, 1, 1))), ("OtherSize", 4, 3))


class JudgeTest(unittest.TestCase):
    def test_all_codes_of_few_signs(self):
        for many in range(2, 7):
            for counts in counts_of(many):
                right = set(least_by_trial(counts))
                for code in all_codes(many):
                    told = judge(code, counts)
                    if code.lengths in right:
                        self.assertIsInstance(told, Least)
                        self.assertEqual((told.counts, told.levels), (tuple(counts), levels(code, counts)))
                        self.assertIs(is_least(told), True)
                    else:
                        self.assertIsInstance(told, Better)
                        self.assertIs(is_better(told), True)
                        self.assertLess(cost(told.other, counts), cost(code, counts))
                        self.assertIn((told.light, told.heavy), rows_by_trial(code.lengths))
                    self.assertTrue(told.code == code)

    def test_many_signs(self):
        for lengths in ([4] * 16, [*range(1, 26), 25], [5] * 22 + [4] * 3 + [3]):
            code = Code(lengths)
            for counts in counts_of(code.size):
                told = judge(code, counts)
                self.assertEqual(isinstance(told, Least), cost(code, counts) == least_cost(counts))
                self.assertTrue(is_least(told) if isinstance(told, Least) else is_better(told))
                self.assertTrue(is_least(judge(joined(counts, "old").code, counts)))

    def test_other_words(self):
        code = Code([2, 2, 1], ["11", "10", "0"])
        told = judge(code, [5, 1, 1])
        self.assertEqual((told.light, told.heavy, told.other.lengths), ((2,), (0,), (1, 2, 2)))
        self.assertEqual(told.other.words, ("0", "10", "11"))

    def test_equal_calls(self):
        for counts in ([4, 3, 2, 1], [1, 1, 1, 1], [0, 0, 0, 9]):
            one, other = judge(Code([2, 2, 2, 2]), counts), judge(Code([2, 2, 2, 2]), tuple(counts))
            self.assertEqual(vars(one), vars(other))

    def test_counts_are_copied(self):
        counts = [1, 1, 1]
        told = judge(Code([1, 2, 2]), counts)
        counts[0] = 9
        self.assertEqual(told.counts, (1, 1, 1))
        self.assertIs(is_least(told), True)


class IsLeastTest(unittest.TestCase):
    def setUp(self):
        self.code = Code([1, 2, 3, 3])
        self.counts = (8, 4, 2, 1)
        self.levels = levels(self.code, self.counts)

    def takes(self, *args):
        told = is_least(Least(*args))
        self.assertIn(told, (True, False))
        return told

    def test_right(self):
        self.assertTrue(self.takes(self.code, self.counts, self.levels))
        self.assertTrue(self.takes(Code([1, 2, 3, 3], ["1", "01", "001", "000"]), list(self.counts), self.levels))
        self.assertTrue(self.takes(self.code, self.counts, [[[w, list(b)] for w, b in row] for row in self.levels]))

    def test_one_thing_otherwise(self):
        for level, entry in enumerate(self.levels):
            self.assertFalse(self.takes(self.code, self.counts, changed(self.levels, level, ())))
            self.assertFalse(self.takes(self.code, self.counts, self.levels[:level] + self.levels[level + 1:]))
            self.assertFalse(self.takes(self.code, self.counts, changed(self.levels, level, entry + entry)))
            for at, (told, bunch) in enumerate(entry):
                wrong = [(told + 1, bunch), (told - 1, bunch), (told, bunch[1:]), (told, bunch + bunch[-1:])]
                wrong += [(told, (*bunch, 4)), (told,), (told, bunch, 0), told, bunch, None, "", (bunch, told)]
                if len(bunch) > 1:
                    wrong.append((told, bunch[::-1]))
                for node in wrong:
                    rows = changed(self.levels, level, changed(entry, at, node))
                    self.assertFalse(self.takes(self.code, self.counts, rows))
            if len(entry) > 1:
                self.assertFalse(self.takes(self.code, self.counts, changed(self.levels, level, entry[::-1])))

    def test_true_is_no_integer(self):
        rows = levels(Code([1, 1]), [1, 0])
        self.assertTrue(self.takes(Code([1, 1]), [1, 0], rows))
        self.assertEqual(rows[1], ((0, (1,)), (1, (0,))))
        self.assertFalse(self.takes(Code([1, 1]), [1, 0], (rows[0], ((0, (1,)), (True, (0,))))))
        self.assertFalse(self.takes(Code([1, 1]), [1, 0], (rows[0], ((False, (1,)), (1, (0,))))))
        self.assertFalse(self.takes(Code([1, 1]), [1, 0], (rows[0], ((0, (True,)), (1, (0,))))))

    def test_other_counts(self):
        for counts in ((8, 4, 2), (8, 4, 2, 1, 0), (8,), (), (8, 4, 1, 2), (8, 4, 2, 2), (1, 1, 1, 1)):
            self.assertFalse(self.takes(self.code, counts, self.levels))
        self.assertFalse(self.takes(Code([2, 2, 2, 2]), self.counts, self.levels))
        self.assertFalse(self.takes(Code([1, 2, 2]), self.counts, self.levels))

    def test_code_that_is_not_least(self):
        for counts in ((1, 1, 1, 1), (1, 2, 4, 8), (0, 0, 0, 1)):
            self.assertFalse(self.takes(self.code, counts, levels(self.code, counts)))

    def test_any_values(self):
        for value in [*any_values(), deep(10), self.levels[0], [1, 2, 3, 4]]:
            self.assertFalse(self.takes(self.code, self.counts, value))
            self.assertFalse(self.takes(self.code, self.counts, changed(self.levels, 2, value)))

    def test_fields_are_copies(self):
        rows = [[[w, list(b)] for w, b in row] for row in self.levels]
        counts = list(self.counts)
        told = Least(self.code, counts, rows)
        rows[1][0][1].append(9)
        rows.clear()
        counts.clear()
        self.assertEqual((told.counts, told.levels), (self.counts, self.levels))
        self.assertIs(told.code, self.code)
        for value in any_values():
            kept = Least(self.code, (1, 2), value).levels
            if not isinstance(value, (list, dict)):
                self.assertEqual(kept, value)
        self.assertEqual(Least(self.code, [1], [[1, [2]], ([3],), "x", None]).levels, ((1, (2,)), ((3,),), "x", None))


class IsBetterTest(unittest.TestCase):
    def takes(self, *args):
        told = is_better(Better(*args))
        self.assertIn(told, (True, False))
        return told

    def test_all_pairs_of_sets(self):
        cases = (((2, 2, 2, 2), (8, 4, 2, 1)), ((1, 2, 3, 3), (1, 5, 2, 0)), ((2, 2, 2, 3, 3), (2, 0, 7, 1, 5)))
        for lengths, counts in cases:
            code, rows = Code(lengths), rows_by_trial(lengths)
            for light, heavy in itertools.product(subsets(len(lengths)), repeat=2):
                right = (light, heavy) in rows and weight(counts, light) < weight(counts, heavy)
                for other in lengths_of_all(len(lengths)):
                    wanted = right and other == lengths_beyond(lengths, light, heavy)
                    self.assertEqual(self.takes(code, counts, light, heavy, Code(other)), wanted)

    def test_signs_out_of_order_or_doubled(self):
        code, counts = Code([2, 2, 2, 2]), (1, 1, 5, 5)
        other = Code([3, 3, 1, 2])
        self.assertTrue(self.takes(code, counts, (0, 1), (2,), other))
        self.assertTrue(self.takes(code, list(counts), [0, 1], [2], other))
        for light in ((1, 0), (0, 0), (1, 1), (0, 1, 1), (0,), (1,), (0, 3), (0, 1, 3), (), (-4, 1), (0, 5), (0, 1, 4)):
            self.assertFalse(self.takes(code, counts, light, (2,), other))
        for heavy in ((2, 2), (3,), (2, 3), (), (-2,), (4,), (0,), (GREAT,), (-GREAT,)):
            self.assertFalse(self.takes(code, counts, (0, 1), heavy, other))
        self.assertFalse(self.takes(code, counts, (False, True), (2,), other))
        self.assertFalse(self.takes(code, counts, (2,), (0, 1), other))

    def test_signs_below_zero(self):
        code = Code([2, 2, 2, 2])
        self.assertTrue(self.takes(code, (1, 1, 5, 0), (0, 3), (2,), Code([3, 2, 1, 3])))
        self.assertFalse(self.takes(code, (1, 1, 5, 0), (-1, 0), (2,), Code([3, 2, 1, 3])))
        self.assertTrue(self.takes(code, (1, 1, 0, 5), (0, 1), (3,), Code([3, 3, 2, 1])))
        self.assertFalse(self.takes(code, (1, 1, 0, 5), (0, 1), (-1,), Code([3, 3, 2, 1])))

    def test_weights(self):
        code, other = Code([2, 2, 2, 2]), Code([3, 3, 1, 2])
        self.assertTrue(self.takes(code, (1, 1, 3, 0), (0, 1), (2,), other))
        self.assertFalse(self.takes(code, (1, 1, 2, 0), (0, 1), (2,), other))
        self.assertFalse(self.takes(code, (1, 1, 1, 0), (0, 1), (2,), other))
        self.assertTrue(self.takes(code, (0, GREAT, GREAT + 1, 0), (0, 1), (2,), other))

    def test_other_code(self):
        code, counts = Code([2, 2, 2, 2]), (1, 1, 5, 5)
        wrong = [Code([3, 3, 2, 1]), Code([2, 2, 2, 2]), Code([1, 1]), Code([3, 3, 1, 2], ["000", "001", "1", "01"])]
        for other in [*wrong, *any_values(), (3, 3, 1, 2), ("110", "111", "0", "10")]:
            self.assertFalse(self.takes(code, counts, (0, 1), (2,), other))

    def test_other_counts(self):
        code, other = Code([2, 2, 2, 2]), Code([3, 3, 1, 2])
        for counts in ((1, 1, 5), (1, 1, 5, 5, 0), (), (1,)):
            self.assertFalse(self.takes(code, counts, (0, 1), (2,), other))

    def test_not_whether_judge_tells_the_same(self):
        counts = (1, 1, 5, 5)
        told = judge(Code([2, 2, 2, 2]), counts)
        for light, heavy in (((0, 1), (2,)), ((0, 1), (3,))):
            other = Code(lengths_beyond((2, 2, 2, 2), light, heavy))
            self.assertTrue(self.takes(told.code, counts, light, heavy, other))

    def test_any_values(self):
        code, counts, other = Code([2, 2, 2, 2]), (1, 1, 5, 5), Code([3, 3, 1, 2])
        for value in [*any_values(), deep(10), "01", ("0", "1"), (None,), ((0, 1),)]:
            self.assertFalse(self.takes(code, counts, value, (2,), other))
            if value != [3] and value != (3,):
                self.assertFalse(self.takes(code, counts, (0, 1), value, other))

    def test_fields(self):
        light, heavy, counts, other = [0, [1]], [2], [1, 1, 5, 5], Code([1, 1])
        told = Better(other, counts, light, heavy, other)
        light.append(3)
        self.assertEqual((told.light, told.heavy, told.counts), ((0, (1,)), (2,), (1, 1, 5, 5)))
        self.assertIs(told.other, other)
        self.assertIs(told.code, other)


class LeastCodesTest(unittest.TestCase):
    def test_by_trial(self):
        for many in range(2, 8):
            for counts in counts_of(many):
                told = least_codes(counts)
                self.assertIs(told.__class__, tuple)
                self.assertEqual([code.lengths for code in told], least_by_trial(counts))
                self.assertTrue(all(code == Code(code.lengths) for code in told))

    def test_errors(self):
        for many in (0, 1, 27, 30):
            self.assertEqual(fields(raised(least_codes, [None] * many)), ("TooMany", "signs", many, 26))
        for value in [-1, *no_integers()]:
            self.assertEqual(fields(raised(least_codes, [1, value])), ("BadCount", 1))
            self.assertEqual(fields(raised(least_codes, [1] * 7 + [value])), ("BadCount", 7))
        for many in range(8, 27):
            self.assertEqual(fields(raised(least_codes, [1] * many)), ("TooMany", "signs", many, 7))
        self.assertIsNone(raised(least_codes, (0,) * 7))


class BunchesTest(unittest.TestCase):
    def test_no_light_bunch_just_where_least(self):
        for counts in counts_of(5):
            right = least_by_trial(counts)
            for lengths in lengths_of_all(5):
                lighter = [row for row in rows_by_trial(lengths) if weight(counts, row[0]) < weight(counts, row[1])]
                self.assertEqual(not lighter, lengths in right)
                self.assertEqual(len(bunches_by_trial(lengths)[0]), 1)


if __name__ == "__main__":
    unittest.main()
