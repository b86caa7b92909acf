import itertools
import math
import operator
import unittest
from fractions import Fraction

from fieldlots.errors import BadNumber, ZeroUnder
from fieldlots.ratio import Ratio, as_ratio
from tests.helpers import fraction

BIG_TOP = 7 ** 90
BIG_UNDER = 10 ** 61 + 1
VALUES = [0, 1, -1, 2, -3, 12, Ratio(0), Ratio(1), Ratio(-4), Ratio(1, 2), Ratio(-1, 2), Ratio(7, 3), Ratio(-7, 3),
          Ratio(-12, 5), Ratio(BIG_TOP, BIG_UNDER), Ratio(-BIG_TOP, 3), 10 ** 70, -10 ** 70]
PAIRS = [(a, b) for a, b in itertools.product(VALUES, VALUES) if isinstance(a, Ratio) or isinstance(b, Ratio)]


class Making(unittest.TestCase):
    def parts(self, *numbers):
        made = Ratio(*numbers)
        return made.top, made.under

    def test_lowest_terms_and_signs(self):
        self.assertEqual(self.parts(6, -4), (-3, 2))
        self.assertEqual(self.parts(-6, -4), (3, 2))
        self.assertEqual(self.parts(-6, 4), (-3, 2))
        self.assertEqual(self.parts(6, 4), (3, 2))
        self.assertEqual(self.parts(0, 5), (0, 1))
        self.assertEqual(self.parts(0, -5), (0, 1))
        self.assertEqual(self.parts(9, 3), (3, 1))
        self.assertEqual(self.parts(-7), (-7, 1))
        self.assertEqual(self.parts(BIG_TOP * 6, BIG_UNDER * -4), (-BIG_TOP * 3, BIG_UNDER * 2))

    def test_zero_under(self):
        for top in (0, 1, -5):
            self.assertRaises(ZeroUnder, Ratio, top, 0)

    def test_as_ratio(self):
        for number in (3, -3, 0, Ratio(2, 3)):
            made = as_ratio(number)
            self.assertIsInstance(made, Ratio)
            self.assertEqual(fraction(made), fraction(number))


class Operators(unittest.TestCase):
    def assert_ratio(self, got, value):
        self.assertIsInstance(got, Ratio)
        self.assertEqual((got.top, got.under), (value.numerator, value.denominator))

    def test_sums_differences_products(self):
        for sign in (operator.add, operator.sub, operator.mul):
            for a, b in PAIRS:
                self.assert_ratio(sign(a, b), Fraction(sign(fraction(a), fraction(b))))

    def test_rounded_quotient_and_remainder(self):
        for a, b in PAIRS:
            if b == 0:
                continue
            quotient = a // b
            self.assertIs(type(quotient), int)
            self.assertEqual(quotient, math.floor(fraction(a) / fraction(b)))
            self.assert_ratio(a % b, fraction(a) - fraction(b) * quotient)

    def test_rounding_below_zero(self):
        self.assertEqual(Ratio(-7, 2) // 1, -4)
        self.assertEqual(Ratio(7, 2) // -1, -4)
        self.assertEqual(Ratio(-7, 2) // Ratio(-1, 2), 7)
        self.assertEqual(-4 // Ratio(3, 2), -3)
        self.assertEqual(Ratio(-7, 2) % 1, Ratio(1, 2))
        self.assertEqual(Ratio(7, 2) % -1, Ratio(-1, 2))
        self.assertEqual(-4 % Ratio(3, 2), Ratio(1, 2))
        self.assertEqual(4 % Ratio(-3, 2), Ratio(-1, 2))

    def test_zero_divisors(self):
        half = Ratio(1, 2)
        for zero in (0, Ratio(0)):
            for call in (operator.floordiv, operator.mod):
                self.assertRaises(ZeroUnder, call, half, zero)
            self.assertRaises(ZeroUnder, half.over, zero)
        self.assertRaises(ZeroUnder, operator.floordiv, 3, Ratio(0))
        self.assertRaises(ZeroUnder, operator.mod, 3, Ratio(0))

    def test_floor_and_ceiling(self):
        for value in VALUES:
            made = as_ratio(value)
            self.assertEqual(made.floor(), math.floor(fraction(value)))
            self.assertEqual(made.ceiling(), math.ceil(fraction(value)))
            self.assertIs(type(made.floor()), int)
            self.assertIs(type(made.ceiling()), int)
        self.assertEqual((Ratio(-7, 2).floor(), Ratio(-7, 2).ceiling()), (-4, -3))
        self.assertEqual((Ratio(7, 2).floor(), Ratio(7, 2).ceiling()), (3, 4))

    def test_over(self):
        for a, b in PAIRS:
            if isinstance(a, Ratio) and b != 0:
                self.assert_ratio(a.over(b), fraction(a) / fraction(b))
        self.assertEqual(Ratio(3, 2).over(-3), Ratio(-1, 2))
        self.assertEqual(Ratio(3, 2).over(Ratio(-3, 4)), -2)

    def test_powers(self):
        for value in (Ratio(0), Ratio(1), Ratio(-1), Ratio(-3, 2), Ratio(BIG_TOP, BIG_UNDER)):
            for n in (0, 1, 2, 3, 63, 64):
                self.assert_ratio(value ** n, fraction(value) ** n)
                self.assert_ratio(value.power(n), fraction(value) ** n)

    def test_refused_powers(self):
        for value in (Ratio(0), Ratio(-3, 2)):
            for n in (65, -1, 10 ** 30, Ratio(1, 2)):
                for call in (value.power, lambda n: value ** n):
                    with self.assertRaises(BadNumber) as caught:
                        call(n)
                    self.assertEqual(caught.exception.name, "power")
                    self.assertEqual(caught.exception.value, n)

    def test_minus_and_abs(self):
        for value in VALUES:
            self.assert_ratio(-as_ratio(value), -fraction(value))
            self.assert_ratio(abs(as_ratio(value)), abs(fraction(value)))

    def test_other_kinds_are_refused(self):
        for sign in (operator.add, operator.sub, operator.mul, operator.floordiv, operator.mod):
            for other in ("1", None, (1,)):
                self.assertRaises(TypeError, sign, Ratio(1, 2), other)
                self.assertRaises(TypeError, sign, other, Ratio(1, 2))


class Comparing(unittest.TestCase):
    def test_six_comparisons_both_ways_about(self):
        for sign in (operator.eq, operator.ne, operator.lt, operator.le, operator.gt, operator.ge):
            for a, b in PAIRS:
                got = sign(a, b)
                self.assertIs(type(got), bool)
                self.assertEqual(got, sign(fraction(a), fraction(b)), (sign, str(a), str(b)))

    def test_whole_values_equal_their_tops(self):
        self.assertTrue(Ratio(8, 2) == 4)
        self.assertTrue(4 == Ratio(8, 2))
        self.assertFalse(Ratio(9, 2) == 4)
        self.assertFalse(Ratio(9, 2) == 9)
        self.assertFalse(9 == Ratio(9, 2))

    def test_other_kinds_are_not_equal(self):
        for other in ("1/2", "4", (1, 2), [1, 2], None, 0.5, {1: 2}):
            for value in (Ratio(1, 2), Ratio(4)):
                self.assertIs(value == other, False)
                self.assertIs(other == value, False)
                self.assertIs(value != other, True)

    def test_truth(self):
        self.assertIs(bool(Ratio(0)), False)
        self.assertIs(bool(Ratio(0, 7)), False)
        self.assertIs(bool(Ratio(1, 9)), True)
        self.assertIs(bool(Ratio(-1)), True)

    def test_whole(self):
        self.assertIs(Ratio(4, 2).whole, True)
        self.assertIs(Ratio(0, 2).whole, True)
        self.assertIs(Ratio(5, 2).whole, False)


class Writing(unittest.TestCase):
    def test_str(self):
        self.assertEqual(str(Ratio(6, -4)), "-3/2")
        self.assertEqual(str(Ratio(8, 2)), "4")
        self.assertEqual(str(Ratio(-8, 2)), "-4")
        self.assertEqual(str(Ratio(0, 3)), "0")
        self.assertEqual(str(Ratio(BIG_TOP, BIG_UNDER)), f"{BIG_TOP}/{BIG_UNDER}")

    def test_operands_stay(self):
        a, b = Ratio(3, 4), Ratio(-5, 6)
        for sign in (operator.add, operator.sub, operator.mul, operator.floordiv, operator.mod):
            sign(a, b)
        a.power(7)
        a.over(b)
        self.assertEqual((a.top, a.under, b.top, b.under), (3, 4, -5, 6))


if __name__ == "__main__":
    unittest.main()
