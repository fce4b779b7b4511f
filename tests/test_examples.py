"""The examples that the document shows, word for word."""

import doctest
import pathlib
import unittest

README = pathlib.Path(__file__).resolve().parent.parent / "README.md"

RATIOS = """
>>> from leastjoined.ratios import Ratio
>>> half = Ratio(3, -6) + 1
>>> [str(half), str(2 - half * 3), str(half.divided(Ratio(1, 3))), half == Ratio(1, 2), half.is_less(1), abs(-half).over]
['1/2', '1/2', '3/2', True, True, 2]
"""

CODES = """
>>> from leastjoined.codes import Code, all_codes, cost, number_of_codes
>>> code = Code([2, 1, 3, 3])
>>> [code.words, code.longest, cost(code, [3, 5, 1, 1])]
[('10', '0', '110', '111'), 3, 17]
>>> [Code([1, 2, 2], ["1", "00", "01"]) == Code([1, 2, 2]), [one.lengths for one in all_codes(3)], number_of_codes(7)]
[False, [(1, 2, 2), (2, 1, 2), (2, 2, 1)], 4347]
"""

JOINING = """
>>> from leastjoined.joining import is_joining, joined
>>> told = joined([1, 1, 1, 2], "old")
>>> [told.steps, told.code.lengths, told.cost, joined([1, 1, 1, 2], "new").code.lengths]
[((0, 1, 2), (2, 3, 3), (4, 5, 5)), (2, 2, 2, 2), 10, (2, 3, 3, 1)]
>>> is_joining([1, 1, 1, 2], [(1, 0, 2), (2, 4, 3), (3, 5, 5)])
True
"""

LEAST = """
>>> from leastjoined.codes import Code, cost
>>> from leastjoined.least import is_better, judge, least_codes, levels
>>> levels(Code([1, 2, 3, 3]), [8, 4, 2, 1])[1:]
(((7, (1, 2, 3)), (8, (0,))), ((3, (2, 3)), (4, (1,))), ((1, (3,)), (2, (2,))))
>>> told = judge(Code([2, 2, 2, 2]), [8, 4, 2, 1])
>>> [is_better(told), cost(told.other, [8, 4, 2, 1]) < 30, [code.lengths for code in least_codes([2, 1, 1, 1])]]
[True, True, [(1, 2, 3, 3), (1, 3, 2, 3), (1, 3, 3, 2), (2, 2, 2, 2)]]
"""

BORDERS = """
>>> from leastjoined.codes import Code
>>> from leastjoined.borders import bunches, is_border, number_of_borders, parts, border, borders
>>> borders(Code([1, 2, 3, 3]))
(((0,), (1,)), ((0,), (2, 3)), ((1,), (2,)), ((1,), (3,)))
>>> told = border(Code([1, 2, 3, 3]), (0,), (2, 3))
>>> [told.other.lengths, is_border(told), bunches(Code([2, 2, 2, 2]), 1)[:3], number_of_borders(Code([2, 2, 2, 2]))]
[(2, 2, 2, 2), True, ((0, 1), (0, 2), (0, 3)), 12]
>>> one, other = parts(Code([3] * 8), (0, 1, 2, 3), (4, 5))
>>> [sorted(one[0] + other[0]), sorted(one[1] + other[1]), len(one[0])]
[[0, 1, 2, 3], [4, 5], 2]
"""

LIMITS = """
>>> from leastjoined.codes import Code, cost
>>> from leastjoined.limits import is_better_within, judge_within, least_within, prices
>>> prices([8, 4, 2, 1, 1])
((3, 32), (4, 30))
>>> told = judge_within(Code([1, 2, 3, 3]), [8, 4, 2, 1], 3)
>>> [told.held, told.free]
[(8, 4, 2), (20, 8, 4)]
>>> other = judge_within(Code([2, 2, 2, 2]), [8, 4, 2, 1], 3)
>>> [is_better_within(other), cost(least_within([8, 4, 2, 1], 2), [8, 4, 2, 1])]
[True, 30]
"""

CHANGES = """
>>> from leastjoined.changes import nearest, slack, taken, until
>>> from leastjoined.codes import Code
>>> four, three = Code([2, 2, 2, 2]), Code([1, 2, 2])
>>> near = nearest(four, [1, 1, 1, 1])
>>> [near.many, len(near.light), len(near.heavy), slack(three, [9, 1, 1]), taken(three, [9, 1, 1])]
[2, 2, 1, 8, 9]
>>> [until(four, [1, 1, 1, 1], Code([1, 2, 3, 3])), nearest(Code([1, 1]), [0, 7]).many]
[(1, 0), None]
"""

COMMON = """
>>> from leastjoined.common import common, is_plan, plan
>>> told = common([[1, 0, 0], [1, 1, 0], [1, 2, 0]])
>>> [common([[1, 0, 0], [1, 1, 0]]).code.lengths, told.whole, told.parts]
[(1, 2, 2), 9, (1, 3, 4)]
>>> way = plan(3, [0, 1, 1, 0], 1)
>>> [len(way.codes), way.codes[0][0], is_plan(3, [0, 1, 1, 0], 1, way.codes, way.stops)]
[2, 1, True]
"""

GROWN = """
>>> from leastjoined.codes import Code
>>> from leastjoined.grown import Text, first_lost
>>> text = Text(3, {"AB": [(0, 1), (1, 1)], "TOP": [("AB", 10 ** 30), (1, 10 ** 20), (2, 3)]}, "TOP")
>>> [text.size == 2 * 10 ** 30 + 10 ** 20 + 3, text.sign_of(10 ** 30), text.part(2 * 10 ** 30 - 2, 4), text.ahead(5)]
[True, 0, (0, 1, 1, 1), (3, 2, 0)]
>>> [first_lost(Code([1, 2, 2]), [5, 0, 0], text), first_lost(Code([1, 2, 2]), [10 ** 25, 0, 0], text)]
[2000000000000000000000000000006, None]
"""

READERS = """
>>> from leastjoined.codes import Code
>>> from leastjoined.readers import read, spelled
>>> code = Code([1, 2, 3, 3])
>>> [code.words, spelled(code, [2, 0, 1])]
[('0', '10', '110', '111'), '110010']
>>> told = read(code, "1100101")
>>> [told.signs, told.ends, told.node, read(code, "00", "11").signs]
[(2, 0, 1), (3, 4, 6), '1', (2, 0)]
"""

TABLES = """
>>> from leastjoined.codes import Code
>>> from leastjoined.tables import Tables, least_tables
>>> code = Code([1, 2, 3, 3])
>>> [least_tables(code, looks).rows for looks in (1, 2, 3)]
[8, 6, 6]
>>> told = Tables(code, {"": 2, "11": 1})
>>> [told.rows, told.row("", "01"), told.row("", "11"), told.row("11", "0"), told.looked(3), str(told.mean([4, 2, 1, 1]))]
[6, ('sign', 0, 1), ('table', '11'), ('sign', 2, 1), 2, '5/4']
"""

CODED = """
>>> from leastjoined.codes import Code
>>> from leastjoined.coded import coded
>>> from leastjoined.grown import Text
>>> told = coded(Code([1, 2, 2]), Text(3, {"A": [(2, 10 ** 30), (0, 1)]}, "A"))
>>> [told.size == 2 * 10 ** 30 + 1, told.sign_at(5), told.begin(10 ** 30) == 2 * 10 ** 30, told.right_from(1) == told.size]
[True, (2, 1), True, True]
>>> [told.flipped(1), told.flipped(0) == (10 ** 30 + 1, 2 * 10 ** 30 + 1)]
[(1, 2), True]
"""

SETTING = """
>>> from leastjoined.codes import Code
>>> from leastjoined.setting import Never, Sets, is_never, setting
>>> [setting(Code([1, 2, 3, 3])).bits, is_never(Never(Code([2, 2, 2, 2]), [("", "0"), ("", "1")]))]
['0', True]
>>> isinstance(setting(Code([2, 2, 2, 2])), Never)
True
"""

DELAYS = """
>>> from leastjoined.codes import Code
>>> from leastjoined.delays import delays
>>> told = delays(Code([1, 2, 2]))
>>> [told.fewest("", "1"), told.greatest("", "1"), told.apart_by("", "1")[1] != "", str(told.mean("", "1", [2, 1, 1]))]
[1, None, True, '2']
"""

FLIPS = """
>>> from leastjoined.codes import Code
>>> from leastjoined.flips import flips
>>> told = flips(Code([1, 2, 2]))
>>> [told.most, told.gain, str(told.mean([2, 1, 1])), flips(Code([2, 2, 2, 2])).most]
[None, (-1, 1), '5/3', 1]
"""

SOONEST = """
>>> from leastjoined.soonest import soonest
>>> told = soonest([2, 1, 1, 1])
>>> [sorted(told.code.lengths), len(told.bits), soonest([1, 1, 1, 1])]
[[1, 2, 3, 3], 1, None]
"""


class ExamplesTest(unittest.TestCase):
    def shows(self, text, many):
        test = doctest.DocTestParser().get_doctest(text, {}, "example", None, None)
        told = []
        result = doctest.DocTestRunner().run(test, out=told.append)
        self.assertEqual((result.failed, result.attempted), (0, many), "".join(told))

    def test_ratios(self):
        self.shows(RATIOS, 3)

    def test_codes(self):
        self.shows(CODES, 4)

    def test_joining(self):
        self.shows(JOINING, 4)

    def test_least(self):
        self.shows(LEAST, 5)

    def test_borders(self):
        self.shows(BORDERS, 7)

    def test_limits(self):
        self.shows(LIMITS, 7)

    def test_changes(self):
        self.shows(CHANGES, 6)

    def test_common(self):
        self.shows(COMMON, 5)

    def test_grown(self):
        self.shows(GROWN, 5)

    def test_readers(self):
        self.shows(READERS, 6)

    def test_tables(self):
        self.shows(TABLES, 6)

    def test_coded(self):
        self.shows(CODED, 6)

    def test_setting(self):
        self.shows(SETTING, 4)

    def test_delays(self):
        self.shows(DELAYS, 4)

    def test_flips(self):
        self.shows(FLIPS, 4)

    def test_soonest(self):
        self.shows(SOONEST, 3)

    def test_readme(self):
        self.shows(README.read_text(encoding="utf-8").replace("\n```", "\n"), 44)


if __name__ == "__main__":
    unittest.main()
