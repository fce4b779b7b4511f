import unittest
from fractions import Fraction

from leastjoined.codes import Code
from leastjoined.errors import BadOver
from leastjoined.ratios import Ratio
from values import any_values, fields, no_integers, raised

GREAT = 10 ** 40 - 1
PAIRS = [
    (number, over)
    for number in (-GREAT, -12, -1, 0, 1, 2, 3, 9, 10 ** 20, GREAT)
    for over in (-GREAT, -6, -1, 1, 2, 9, 10 ** 20, GREAT)
]
INTEGERS = (-GREAT, -3, -1, 0, 1, 2, 10 ** 20, GREAT)


class RatioTest(unittest.TestCase):
    def same(self, ratio, fraction):
        self.assertIsInstance(ratio, Ratio)
        self.assertEqual((ratio.number, ratio.over), (fraction.numerator, fraction.denominator))

    def test_lowest_terms(self):
        for number, over in PAIRS:
            self.same(Ratio(number, over), Fraction(number, over))

    def test_over_is_one_if_none_is_given(self):
        for number in INTEGERS:
            self.same(Ratio(number), Fraction(number))

    def test_zero(self):
        self.same(Ratio(0, -7), Fraction(0))
        self.assertEqual(Ratio(0, -7), Ratio(0))

    def test_kinds_of_attributes(self):
        for ratio in (Ratio(4, -6), Ratio(0, 5), Ratio(3)):
            self.assertIs(ratio.number.__class__, int)
            self.assertIs(ratio.over.__class__, int)

    def test_two_ratios(self):
        for number, over in PAIRS:
            for more, below in PAIRS[::3]:
                one, other = Ratio(number, over), Ratio(more, below)
                first, second = Fraction(number, over), Fraction(more, below)
                self.same(one + other, first + second)
                self.same(one - other, first - second)
                self.same(one * other, first * second)
                self.assertIs(one.is_less(other), first < second)
                self.assertIs(one == other, first == second)
                self.assertIs(one != other, first != second)
                if more != 0:
                    self.same(one.divided(other), first / second)

    def test_integers_on_either_side(self):
        for number, over in PAIRS:
            for whole in INTEGERS:
                one, first = Ratio(number, over), Fraction(number, over)
                self.same(one + whole, first + whole)
                self.same(whole + one, whole + first)
                self.same(one - whole, first - whole)
                self.same(whole - one, whole - first)
                self.same(one * whole, first * whole)
                self.same(whole * one, whole * first)
                self.assertIs(one.is_less(whole), first < whole)
                if whole != 0:
                    self.same(one.divided(whole), first / whole)

    def test_minus_and_abs(self):
        for number, over in PAIRS:
            self.same(-Ratio(number, over), -Fraction(number, over))
            self.same(abs(Ratio(number, over)), abs(Fraction(number, over)))

    def test_str(self):
        for number, over in PAIRS:
            self.assertEqual(str(Ratio(number, over)), str(Fraction(number, over)))
        self.assertEqual([str(Ratio(3, 2)), str(Ratio(4, 2)), str(Ratio(1, -2))], ["3/2", "2", "-1/2"])
        self.assertEqual([str(Ratio(0, 9)), str(Ratio(-3)), f"{Ratio(6, 4)}"], ["0", "-3", "3/2"])

    def test_str_at_block_ends(self):
        for number in (10 ** 63, 10 ** 64 - 1, 10 ** 64, 10 ** 64 + 1, 10 ** 128 - 1, 10 ** 128, 7 * 10 ** 200):
            self.assertEqual(str(Ratio(number)), str(number))
            self.assertEqual(str(Ratio(-7, number)), str(Fraction(-7, number)))

    def test_str_of_numbers_that_grew_great(self):
        ratio = Ratio(10 ** 39, 7)
        for _ in range(7):
            ratio = ratio * ratio
        self.assertEqual(str(ratio), "1" + "0" * (39 * 128) + "/" + str(7 ** 128))

    def test_a_ratio_equals_no_other_kind(self):
        for value in [*any_values(), 1, 2, Code([1, 1])]:
            for ratio in (Ratio(1), Ratio(2), Ratio(0)):
                if not isinstance(value, Ratio):
                    self.assertIs(ratio == value, False)
                    self.assertIs(value == ratio, False)
                    self.assertIs(ratio != value, True)

    def test_equal_fractions(self):
        self.assertTrue(Ratio(1, 2) == Ratio(-2, -4))
        self.assertFalse(Ratio(1, 2) == Ratio(-1, 2))
        self.assertFalse(Ratio(1, 2) == Ratio(1, 3))
        self.assertFalse(Ratio(1, 2) == Ratio(3, 2))

    def test_is_less_of_equal_ones(self):
        self.assertIs(Ratio(1, 2).is_less(Ratio(2, 4)), False)
        self.assertIs(Ratio(2).is_less(2), False)
        self.assertIs(Ratio(-1, 2).is_less(0), True)

    def test_bad_over(self):
        for value in [0, *no_integers()]:
            self.assertEqual(fields(raised(Ratio, 3, value)), ("BadOver",))
        self.assertIsInstance(raised(Ratio, 0, 0), BadOver)

    def test_bad_divisor(self):
        for value in [0, Ratio(0), Ratio(0, 5), *no_integers()]:
            if not isinstance(value, Ratio) or value == Ratio(0):
                self.assertEqual(fields(raised(Ratio(1, 2).divided, value)), ("BadOver",))
                self.assertEqual(fields(raised(Ratio(0).divided, value)), ("BadOver",))

    def test_operators_take_no_other_kind(self):
        with self.assertRaises(TypeError):
            Ratio(1) + "1"
        with self.assertRaises(TypeError):
            None - Ratio(1)
        with self.assertRaises(TypeError):
            Ratio(1) * [1]

    def test_nothing_changes(self):
        one, other = Ratio(1, 2), Ratio(3, 4)
        for _ in range(2):
            self.same(one + other, Fraction(5, 4))
            self.same(one.divided(other), Fraction(2, 3))
            self.same(-one, Fraction(-1, 2))
        one_more = one
        one_more += other
        self.assertEqual([str(one), str(other), str(one_more)], ["1/2", "3/4", "5/4"])


if __name__ == "__main__":
    unittest.main()
