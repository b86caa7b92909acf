import unittest
from itertools import product

from fieldlots.answers import best_answer
from fieldlots.errors import BadNumber
from fieldlots.ratio import Ratio
from fieldlots.sums import solve
from fieldlots.verdicts import CostVerdict, Verdict
from tests.helpers import BIG, TIES, number, numbers_of_verdict, text_of_blend, texts_of_verdict

# Both means, the rule of ties, the worth; the lots and the lines of both sides.
TOLD = (
    ("2", "1", 0, "1/2",
     "1*1:2:2", "1/2*0:1:1 + 1/2*0:2:3", "1 -1/2", "-1/6 -1/6"),
    ("0", "0", 0, "0",
     "1*0:1:1", "1*0:1:1", "0 -1", "0 -1"),
    ("1/2", "0", 0, "1/2",
     "1/2*0:1:1 + 1/2*1:1:1", "1*0:1:1", "1/2 -1", "0 -1"),
    ("1/2", "1/3", 0, "1/6",
     "1/2*0:1:1 + 1/2*1:1:1", "2/3*0:1:1 + 1/3*1:1:1", "1/2 -1", "1/3 -1"),
    ("2/3", "2/3", 0, "0",
     "1/3*0:1:1 + 2/3*1:1:1", "1/3*0:1:1 + 2/3*1:1:1", "2/3 -1", "2/3 -1"),
    ("1", "0", 0, "1",
     "1*1:1:1", "1*0:1:1", "1 -1", "-1 0"),
    ("1", "1", 0, "0",
     "1*1:1:1", "1*0:2:2", "1 -1", "1/2 -1/2"),
    ("3/2", "1", 0, "1/4",
     "1/2*1:1:1 + 1/2*1:2:2", "1*0:2:2", "1 -3/4", "1/2 -1/2"),
    ("3/2", "5/4", 0, "1/8",
     "1/2*0:2:2 + 1/2*1:2:2", "3/4*0:2:2 + 1/4*1:2:2", "3/4 -1/2", "5/8 -1/2"),
    ("5/2", "0", 0, "1",
     "1/2*1:2:2 + 1/2*1:2:3", "1*0:1:1", "1 -5/12", "-1 0"),
    ("5/2", "1/2", 0, "19/24",
     "1/2*1:2:2 + 1/2*1:2:3", "3/4*0:1:1 + 1/4*0:2:3", "1 -5/12", "-7/12 -1/12"),
    ("8/3", "2", 0, "2/9",
     "1/3*1:2:2 + 2/3*1:2:3", "1*0:2:3", "1 -7/18", "2/3 -1/3"),
    ("8/3", "9/4", 0, "5/36",
     "1/3*0:2:3 + 2/3*1:2:3", "3/4*0:2:3 + 1/4*1:2:3", "8/9 -1/3", "3/4 -1/3"),
    ("3", "3", 0, "0",
     "1*1:2:3", "1*0:2:4", "1 -1/3", "3/4 -1/4"),
    ("3", "2", 0, "1/3",
     "1*1:2:3", "1/3*0:1:1 + 2/3*0:2:4", "1 -1/3", "1/6 -1/6"),
    ("7/2", "7/2", 0, "0",
     "1/2*0:2:4 + 1/2*1:2:4", "1/2*0:2:4 + 1/2*1:2:4", "7/8 -1/4", "7/8 -1/4"),
    ("1", "2", 0, "-1/2",
     "1/2*0:1:1 + 1/2*0:2:3", "1*1:2:2", "-1/6 -1/6", "1 -1/2"),
    ("1/3", "5/2", 0, "-31/36",
     "5/6*0:1:1 + 1/6*0:2:3", "1/2*1:2:2 + 1/2*1:2:3", "-13/18 -1/18", "1 -5/12"),
    ("5/4", "3/2", 0, "-1/8",
     "3/4*0:2:2 + 1/4*1:2:2", "1/2*0:2:2 + 1/2*1:2:2", "5/8 -1/2", "3/4 -1/2"),
    ("0", "0", -1, "-1",
     "1*0:1:1", "1*0:1:1", "-1 0", "1 -2"),
    ("1/4", "1/4", -1, "-5/8",
     "3/4*0:1:1 + 1/4*1:1:1", "1/2*0:1:1 + 1/2*0:1:2", "-1/2 -1/2", "1 -3/2"),
    ("0", "1/3", -1, "-1",
     "1*0:1:1", "1/3*0:1:1 + 2/3*0:1:2", "-1 0", "1 -4/3"),
    ("1/2", "0", -1, "0",
     "1/2*0:1:1 + 1/2*1:1:1", "1*0:1:1", "0 -1", "1 -2"),
    ("3/4", "1/3", -1, "0",
     "1/4*0:1:1 + 3/4*1:1:1", "1/3*0:1:1 + 2/3*0:1:2", "1/2 -3/2", "1 -4/3"),
    ("1", "0", -1, "1",
     "1*1:1:1", "1*0:1:1", "1 -2", "-1 0"),
    ("1", "1/4", -1, "1/2",
     "1*1:1:1", "1/2*0:1:1 + 1/2*0:1:2", "1 -2", "0 -1/2"),
    ("5/4", "1/3", -1, "1/2",
     "1/2*1:1:1 + 1/2*1:1:2", "1/3*0:1:1 + 2/3*0:1:2", "1 -3/2", "1/3 -2/3"),
    ("1", "1/2", -1, "0",
     "1/3*0:1:1 + 2/3*1:1:2", "1*0:1:2", "1/3 -2/3", "1 -1"),
    ("3/2", "1/2", -1, "1/2",
     "1*1:1:2", "1/2*0:1:1 + 1/2*0:1:3", "1 -1", "0 -1/3"),
    ("7/4", "2/3", -1, "4/9",
     "1/2*1:1:2 + 1/2*1:1:3", "1/3*0:1:1 + 2/3*0:1:3", "1 -5/6", "1/3 -4/9"),
    ("2", "1/2", -1, "2/3",
     "1*1:1:3", "2/3*0:1:1 + 1/3*0:1:4", "1 -2/3", "-1/3 -1/6"),
    ("2", "1", -1, "1/3",
     "1*1:1:3", "1/3*0:1:1 + 2/3*0:1:4", "1 -2/3", "1/3 -1/3"),
    ("2", "5/4", -1, "1/6",
     "1*1:1:3", "1/6*0:1:1 + 5/6*0:1:4", "1 -2/3", "2/3 -5/12"),
    ("2", "2", -1, "-1/5",
     "1/3*0:1:1 + 2/3*1:1:5", "1*0:1:5", "1/3 -4/15", "1 -2/5"),
    ("7/3", "1/3", -1, "22/27",
     "1/3*1:1:3 + 2/3*1:1:4", "7/9*0:1:1 + 2/9*0:1:4", "1 -5/9", "-5/9 -1/9"),
    ("1/3", "9/4", -1, "-79/90",
     "8/9*0:1:1 + 1/9*1:1:5", "1/2*0:1:5 + 1/2*0:1:6", "-7/9 -2/45", "1 -11/30"),
    ("3", "7/2", -1, "-1/4",
     "1/3*0:1:1 + 2/3*1:1:8", "1*0:1:8", "1/3 -1/6", "1 -1/4"),
    ("0", "3", -1, "-1",
     "1*0:1:1", "1*0:1:7", "-1 0", "1 -2/7"),
    ("0", "0", 1, "1",
     "1*0:1:1", "1*0:1:1", "1 -2", "-1 0"),
    ("1/4", "1", 1, "-1/2",
     "1/2*0:1:1 + 1/2*0:1:2", "1*1:1:1", "0 -1/2", "1 -2"),
    ("1/3", "5/4", 1, "-1/2",
     "1/3*0:1:1 + 2/3*0:1:2", "1/2*1:1:1 + 1/2*1:1:2", "1/3 -2/3", "1 -3/2"),
    ("1/2", "1", 1, "0",
     "1*0:1:2", "1/3*0:1:1 + 2/3*1:1:2", "1 -1", "1/3 -2/3"),
    ("1", "2", 1, "-1/3",
     "1/3*0:1:1 + 2/3*0:1:4", "1*1:1:3", "1/3 -1/3", "1 -2/3"),
    ("2", "2", 1, "1/5",
     "1*0:1:5", "1/3*0:1:1 + 2/3*1:1:5", "1 -2/5", "1/3 -4/15"),
    ("9/4", "1/3", 1, "79/90",
     "1/2*0:1:5 + 1/2*0:1:6", "8/9*0:1:1 + 1/9*1:1:5", "1 -11/30", "-7/9 -2/45"),
    ("1/3", "7/3", 1, "-22/27",
     "7/9*0:1:1 + 2/9*0:1:4", "1/3*1:1:3 + 2/3*1:1:4", "-5/9 -1/9", "1 -5/9"),
    ("3", "0", 1, "1",
     "1*0:1:7", "1*0:1:1", "1 -2/7", "-1 0"),
)


class ToldVerdicts(unittest.TestCase):
    def test_the_example(self):
        verdict = solve(2, 1)
        shown = [verdict.rows(), text_of_blend(verdict.one), text_of_blend(verdict.two)]
        self.assertEqual(shown, [["worth 1/2", "means 2 1"], "1*1:2:2", "1/2*0:1:1 + 1/2*0:2:3"])

    def test_each_case(self):
        for mean_one, mean_two, ties, *texts in TOLD:
            verdict = solve(number(mean_one), number(mean_two), ties=ties)
            self.assertEqual(texts_of_verdict(verdict), tuple(texts), (mean_one, mean_two, ties))

    def test_kind_means_and_ties(self):
        for mean_one, mean_two, ties, *_ in TOLD:
            verdict = solve(number(mean_one), number(mean_two), ties=ties)
            self.assertIsInstance(verdict, Verdict)
            self.assertNotIsInstance(verdict, CostVerdict)
            self.assertEqual((verdict.mean_one, verdict.mean_two), (number(mean_one), number(mean_two)))
            self.assertIs(type(verdict.ties), int)
            self.assertEqual(verdict.ties, ties)

    def test_ties_left_out_pay_nothing(self):
        self.assertEqual(texts_of_verdict(solve(1, 1)), texts_of_verdict(solve(1, 1, ties=0)))
        self.assertRaises(TypeError, solve, 1, 1, 0)

    def test_all_numbers_are_ratios(self):
        for mean_one, mean_two, ties in product((0, 1, 2, 5), (0, 1, 2, 5), TIES):
            verdict = solve(mean_one, mean_two, ties=ties)
            for each in numbers_of_verdict(verdict):
                self.assertIsInstance(each, Ratio)
            same = solve(Ratio(mean_one), Ratio(mean_two), ties=ties)
            self.assertEqual(texts_of_verdict(verdict), texts_of_verdict(same))


class Holding(unittest.TestCase):
    def check(self, mean_one, mean_two, ties):
        verdict = solve(mean_one, mean_two, ties=ties)
        self.assertIs(verdict.holds(), True)
        self.assertEqual(verdict.one.mean, mean_one)
        self.assertEqual(verdict.two.mean, mean_two)
        return verdict

    def test_the_told_ones(self):
        for mean_one, mean_two, ties, *_ in TOLD:
            self.check(number(mean_one), number(mean_two), ties)

    def test_a_grid_of_means(self):
        means = [Ratio(top, 6) for top in range(0, 30)]
        for mean_one, mean_two, ties in product(means, means, TIES):
            self.check(mean_one, mean_two, ties)

    def test_neither_side_can_do_better(self):
        means = [Ratio(top, 4) for top in (0, 1, 2, 3, 4, 5, 8, 11)]
        for mean_one, mean_two, ties in product(means, means, TIES):
            verdict = self.check(mean_one, mean_two, ties)
            self.assertEqual(best_answer(verdict.one, mean_two, ties=ties).worth, verdict.worth)
            self.assertEqual(best_answer(verdict.two, mean_one, ties=-ties).worth, -verdict.worth)

    def test_the_sides_exchanged(self):
        for mean_one, mean_two, ties, *_ in TOLD:
            # Means on a level where ties pay nothing are no case of exchange.
            if ties or mean_one != mean_two:
                worth, one, two, floor_one, floor_two = texts_of_verdict(
                    solve(number(mean_two), number(mean_one), ties=-ties))
                exchanged = (str(-number(worth)), two, one, floor_two, floor_one)
                self.assertEqual(texts_of_verdict(solve(number(mean_one), number(mean_two), ties=ties)), exchanged)

    def test_great_means(self):
        tiny = Ratio(1, BIG + 7)
        means = (0, tiny, Ratio(BIG + 1, 2), BIG, BIG + tiny, Ratio(BIG, 3), Ratio(7 * BIG + 3, BIG // 10 + 1),
                 Ratio(9 * BIG - 1, BIG + 9))
        for mean_one, mean_two, ties in product(means, means, TIES):
            self.check(mean_one, mean_two, ties)

    def test_a_great_verdict(self):
        verdict = solve(BIG, 1)
        self.assertEqual(verdict.worth, 1 - Ratio(1, BIG))
        self.assertEqual(text_of_blend(verdict.one), f"1*1:2:{BIG}")
        self.assertEqual(text_of_blend(verdict.two), f"{1 - Ratio(1, BIG)}*0:1:1 + {Ratio(1, BIG)}*0:2:{BIG + 1}")


class Refusals(unittest.TestCase):
    def assert_bad(self, name, value, *means, **more):
        with self.assertRaises(BadNumber) as caught:
            solve(*means, **more)
        self.assertEqual((caught.exception.name, caught.exception.value), (name, value))

    def test_in_their_order(self):
        self.assert_bad("ties", 2, -1, -1, ties=2)
        self.assert_bad("ties", -2, 1, 1, ties=-2)
        for ties in TIES:
            self.assert_bad("mean_one", -1, -1, -2, ties=ties)
            self.assert_bad("mean_two", -2, 0, -2, ties=ties)
            self.assert_bad("mean_one", Ratio(-1, 3), Ratio(-1, 3), 1, ties=ties)
            self.assert_bad("mean_two", Ratio(-1, BIG), 1, Ratio(-1, BIG), ties=ties)


if __name__ == "__main__":
    unittest.main()
