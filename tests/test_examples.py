"""The examples that the document shows, word for word."""

import doctest
import pathlib
import unittest

README = pathlib.Path(__file__).resolve().parent.parent / "README.md"

RATIOS = """
>>> from leastjoined.ratios import Ratio
>>> half = Ratio(3, -6) + 1
>>> [str(half), str(2 - half * 3), str(half.divided(Ratio(1, 3))), half == Ratio(1, 2), half.is_less(1), abs(-half).over]
['1/2', '1/2', '3/2', True, True, 2]
"""

CODES = """
>>> from leastjoined.codes import Code, all_codes, cost, number_of_codes
>>> code = Code([2, 1, 3, 3])
>>> [code.words, code.longest, cost(code, [3, 5, 1, 1])]
[('10', '0', '110', '111'), 3, 17]
>>> [Code([1, 2, 2], ["1", "00", "01"]) == Code([1, 2, 2]), [one.lengths for one in all_codes(3)], number_of_codes(7)]
[False, [(1, 2, 2), (2, 1, 2), (2, 2, 1)], 4347]
"""

JOINING = """
>>> from leastjoined.joining import is_joining, joined
>>> told = joined([1, 1, 1, 2], "old")
>>> [told.steps, told.code.lengths, told.cost, joined([1, 1, 1, 2], "new").code.lengths]
[((0, 1, 2), (2, 3, 3), (4, 5, 5)), (2, 2, 2, 2), 10, (2, 3, 3, 1)]
>>> is_joining([1, 1, 1, 2], [(1, 0, 2), (2, 4, 3), (3, 5, 5)])
True
"""

LEAST = """
>>> from leastjoined.codes import Code, cost
>>> from leastjoined.least import is_better, judge, least_codes, levels
>>> levels(Code([1, 2, 3, 3]), [8, 4, 2, 1])[1:]
(((7, (1, 2, 3)), (8, (0,))), ((3, (2, 3)), (4, (1,))), ((1, (3,)), (2, (2,))))
>>> told = judge(Code([2, 2, 2, 2]), [8, 4, 2, 1])
>>> [is_better(told), cost(told.other, [8, 4, 2, 1]) < 30, [code.lengths for code in least_codes([2, 1, 1, 1])]]
[True, True, [(1, 2, 3, 3), (1, 3, 2, 3), (1, 3, 3, 2), (2, 2, 2, 2)]]
"""

BORDERS = """
>>> from leastjoined.codes import Code
>>> from leastjoined.borders import bunches, is_border, number_of_borders, parts, border, borders
>>> borders(Code([1, 2, 3, 3]))
(((0,), (1,)), ((0,), (2, 3)), ((1,), (2,)), ((1,), (3,)))
>>> told = border(Code([1, 2, 3, 3]), (0,), (2, 3))
>>> [told.other.lengths, is_border(told), bunches(Code([2, 2, 2, 2]), 1)[:3], number_of_borders(Code([2, 2, 2, 2]))]
[(2, 2, 2, 2), True, ((0, 1), (0, 2), (0, 3)), 12]
>>> one, other = parts(Code([3] * 8), (0, 1, 2, 3), (4, 5))
>>> [sorted(one[0] + other[0]), sorted(one[1] + other[1]), len(one[0])]
[[0, 1, 2, 3], [4, 5], 2]
"""


class ExamplesTest(unittest.TestCase):
    def shows(self, text, many):
        test = doctest.DocTestParser().get_doctest(text, {}, "example", None, None)
        told = []
        result = doctest.DocTestRunner().run(test, out=told.append)
        self.assertEqual((result.failed, result.attempted), (0, many), "".join(told))

    def test_ratios(self):
        self.shows(RATIOS, 3)

    def test_codes(self):
        self.shows(CODES, 4)

    def test_joining(self):
        self.shows(JOINING, 4)

    def test_least(self):
        self.shows(LEAST, 5)

    def test_borders(self):
        self.shows(BORDERS, 7)

    def test_readme(self):
        self.shows(README.read_text(encoding="utf-8").replace("\n```", "\n"), 16)


if __name__ == "__main__":
    unittest.main()
