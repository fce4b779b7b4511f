"""The examples that the document shows, word for word."""

import doctest
import pathlib
import unittest

README = pathlib.Path(__file__).resolve().parent.parent / "README.md"

RATIOS = """
>>> from leastjoined.ratios import Ratio
>>> half = Ratio(3, -6) + 1
>>> [str(half), str(2 - half * 3), str(half.divided(Ratio(1, 3))), half == Ratio(1, 2), half.is_less(1), abs(-half).over]
['1/2', '1/2', '3/2', True, True, 2]
"""

CODES = """
>>> from leastjoined.codes import Code, all_codes, cost, number_of_codes
>>> code = Code([2, 1, 3, 3])
>>> [code.words, code.longest, cost(code, [3, 5, 1, 1])]
[('10', '0', '110', '111'), 3, 17]
>>> [Code([1, 2, 2], ["1", "00", "01"]) == Code([1, 2, 2]), [one.lengths for one in all_codes(3)], number_of_codes(7)]
[False, [(1, 2, 2), (2, 1, 2), (2, 2, 1)], 4347]
"""


class ExamplesTest(unittest.TestCase):
    def shows(self, text, many):
        test = doctest.DocTestParser().get_doctest(text, {}, "example", None, None)
        told = []
        result = doctest.DocTestRunner().run(test, out=told.append)
        self.assertEqual((result.failed, result.attempted), (0, many), "".join(told))

    def test_ratios(self):
        self.shows(RATIOS, 3)

    def test_codes(self):
        self.shows(CODES, 4)

    def test_readme(self):
        self.shows(README.read_text(encoding="utf-8").replace("\n```", "\n"), 9)


if __name__ == "__main__":
    unittest.main()
