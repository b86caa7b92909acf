import unittest

from fieldlots.lines import Line
from fieldlots.ratio import Ratio

HALF = Ratio(1, 2)


class Lines(unittest.TestCase):
    def assert_line(self, line, start, slope):
        self.assertIsInstance(line, Line)
        self.assertIsInstance(line.start, Ratio)
        self.assertIsInstance(line.slope, Ratio)
        self.assertEqual((line.start, line.slope), (start, slope))

    def test_attributes_are_ratios(self):
        self.assert_line(Line(3, -2), 3, -2)
        self.assert_line(Line(HALF, 0), HALF, 0)

    def test_values(self):
        line = Line(Ratio(1, 3), Ratio(-1, 2))
        for k, value in ((0, Ratio(1, 3)), (2, Ratio(-2, 3)), (-2, Ratio(4, 3)), (Ratio(2, 3), 0), (Ratio(-4, 3), 1),
                         (10 ** 30, Ratio(1, 3) - 5 * 10 ** 29)):
            self.assertIsInstance(line(k), Ratio)
            self.assertEqual(line(k), value)
        self.assertIsInstance(Line(3, 2)(4), Ratio)
        self.assertEqual(Line(3, 2)(4), 11)

    def test_sums_and_differences(self):
        one, other = Line(3, -2), Line(HALF, Ratio(1, 3))
        self.assert_line(one + other, Ratio(7, 2), Ratio(-5, 3))
        self.assert_line(one - other, Ratio(5, 2), Ratio(-7, 3))
        self.assert_line(-other, Ratio(-1, 2), Ratio(-1, 3))
        for k in (0, 5, Ratio(-2, 7)):
            self.assertEqual((one + other)(k), one(k) + other(k))
            self.assertEqual((one - other)(k), one(k) - other(k))
            self.assertEqual((-other)(k), -other(k))

    def test_products_on_either_side(self):
        line = Line(3, Ratio(-2, 5))
        for number in (0, 4, -4, HALF, Ratio(-5, 3)):
            self.assert_line(line * number, 3 * number, Ratio(-2, 5) * number)
            self.assert_line(number * line, 3 * number, Ratio(-2, 5) * number)

    def test_equality(self):
        self.assertTrue(Line(1, 2) == Line(Ratio(2, 2), Ratio(4, 2)))
        for other in (Line(1, 3), Line(2, 2), Line(2, 1), (1, 2), 1, Ratio(1), None, "1 2"):
            self.assertIs(Line(1, 2) == other, False)
            self.assertIs(Line(1, 2) != other, True)

    def test_operands_stay(self):
        line = Line(1, 2)
        line + line
        line - line
        -line
        line * 3
        3 * line
        self.assert_line(line, 1, 2)

    def test_other_kinds_are_refused(self):
        line = Line(1, 2)
        for call in (lambda: line + 1, lambda: 1 + line, lambda: line - HALF, lambda: HALF - line,
                     lambda: line * line, lambda: line * "2", lambda: None * line):
            self.assertRaises(TypeError, call)


if __name__ == "__main__":
    unittest.main()
