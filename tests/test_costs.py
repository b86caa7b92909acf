import unittest
from itertools import product

from fieldlots.answers import best_over
from fieldlots.costs import Priced, priced, solve_costs
from fieldlots.errors import BadNumber, TooMany
from fieldlots.ratio import Ratio
from fieldlots.verdicts import CostVerdict
from tests.helpers import BIG, TIES, fraction, number, numbers_of_verdict, ratio, texts_of_verdict

# Both costs, the rule of ties, the worth; the lots and the lines of both sides.
TOLD = (
    ("2", "3", 0, "0",
     "1*0:1:1", "1*0:1:1", "0 -3", "0 -2"),
    ("3/2", "3/2", 0, "0",
     "1*0:1:1", "1*0:1:1", "0 -3/2", "0 -3/2"),
    ("1", "1", 0, "0",
     "1*1:1:1", "1*1:1:1", "1 -1", "1 -1"),
    ("1", "3/4", 0, "-1/4",
     "1/2*1:1:1 + 1/2*0:2:2", "1*1:1:1", "3/4 -3/4", "1 -1"),
    ("2/5", "3/8", 0, "-1/20",
     "1/4*1:2:2 + 3/4*0:2:3", "2/5*1:2:2 + 3/5*0:2:3", "3/4 -3/8", "4/5 -2/5"),
    ("1/2", "1/2", 0, "0",
     "1*1:2:2", "1*1:2:2", "1 -1/2", "1 -1/2"),
    ("1/2", "1", 0, "1/2",
     "1*1:1:1", "1*0:2:2", "1 -1", "1/2 -1/2"),
    ("1", "2", 0, "0",
     "1*1:1:1", "1*0:1:1", "1 -2", "0 -1"),
    ("1/40", "2", 0, "39/40",
     "1*1:1:1", "1*0:1:1", "1 -2", "-39/40 -1/40"),
    ("2/5", "2/3", 0, "1/3",
     "1/3*1:1:1 + 2/3*1:2:2", "1/5*0:1:1 + 4/5*0:2:2", "1 -2/3", "1/5 -2/5"),
    ("1/3", "1/2", 0, "1/3",
     "1*1:2:2", "1*0:2:3", "1 -1/2", "2/3 -1/3"),
    ("1/40", "1/40", 0, "0",
     "1*1:2:40", "1*1:2:40", "1 -1/40", "1 -1/40"),
    ("1/40", "3/8", 0, "149/160",
     "1/4*1:2:2 + 3/4*1:2:3", "37/40*0:1:1 + 3/40*0:2:3", "1 -3/8", "-7/8 -1/40"),
    ("2", "1", 0, "0",
     "1*0:1:1", "1*1:1:1", "0 -1", "1 -2"),
    ("1", "1/2", 0, "-1/2",
     "1*0:2:2", "1*1:1:1", "1/2 -1/2", "1 -1"),
    ("3/8", "1/40", 0, "-149/160",
     "37/40*0:1:1 + 3/40*0:2:3", "1/4*1:2:2 + 3/4*1:2:3", "-7/8 -1/40", "1 -3/8"),
    ("3/4", "2/7", 0, "-4/7",
     "3/7*0:1:1 + 4/7*0:2:2", "1/2*1:1:1 + 1/2*1:2:2", "-1/7 -2/7", "1 -3/4"),
    ("3", "5/2", -1, "-1",
     "1*0:1:1", "1*0:1:1", "-1 -5/2", "1 -3"),
    ("3", "1", -1, "-1",
     "1*0:1:1", "1*0:1:1", "-1 -1", "1 -3"),
    ("2", "2", -1, "-1",
     "1*1:1:1", "1*0:1:1", "1 -2", "1 -2"),
    ("1", "1", -1, "-1/2",
     "1*1:1:2", "1*0:1:2", "1 -1", "1 -1"),
    ("2/5", "3/8", -1, "-1/4",
     "1/16*0:1:1 + 15/16*1:1:5", "1*0:1:5", "7/8 -3/8", "1 -2/5"),
    ("1", "1/2", -1, "-3/4",
     "1/2*0:1:1 + 1/2*1:1:2", "1*0:1:2", "0 -1/2", "1 -1"),
    ("3/2", "4/5", -1, "-4/5",
     "3/5*0:1:1 + 2/5*1:1:1", "3/4*0:1:1 + 1/4*1:1:1", "-1/5 -4/5", "1 -3/2"),
    ("1", "2/3", -1, "-2/3",
     "1/3*0:1:1 + 2/3*1:1:2", "1*0:1:2", "1/3 -2/3", "1 -1"),
    ("2", "3", -1, "-1",
     "1*1:1:1", "1*0:1:1", "1 -3", "1 -2"),
    ("1", "5/2", -1, "0",
     "1*1:1:1", "1*0:1:1", "1 -5/2", "0 -1"),
    ("1/2", "5/2", -1, "1/2",
     "1*1:1:1", "1*0:1:1", "1 -5/2", "-1/2 -1/2"),
    ("1", "2", -1, "0",
     "1*1:1:1", "1*0:1:2", "1 -2", "1 -1"),
    ("2/5", "3/5", -1, "3/25",
     "9/10*1:1:3 + 1/10*4:1:1", "1/5*0:1:1 + 4/5*0:1:4", "1 -3/5", "3/5 -2/5"),
    ("1/2", "1", -1, "1/4",
     "1*1:1:2", "1/4*0:1:1 + 3/4*0:1:3", "1 -1", "1/2 -1/2"),
    ("1/40", "1/2", -1, "15/16",
     "1*1:1:4", "15/16*0:1:1 + 1/16*0:1:5", "1 -1/2", "-7/8 -1/40"),
    ("1/40", "1/40", -1, "-1/80",
     "1*1:1:80", "1*0:1:80", "1 -1/40", "1 -1/40"),
    ("5/2", "3", 1, "1",
     "1*0:1:1", "1*0:1:1", "1 -3", "-1 -5/2"),
    ("1", "3", 1, "1",
     "1*0:1:1", "1*0:1:1", "1 -3", "-1 -1"),
    ("1", "1", 1, "1/2",
     "1*0:1:2", "1*1:1:2", "1 -1", "1 -1"),
    ("1/2", "1", 1, "3/4",
     "1*0:1:2", "1/2*0:1:1 + 1/2*1:1:2", "1 -1", "0 -1/2"),
    ("5/2", "1", 1, "0",
     "1*0:1:1", "1*1:1:1", "0 -1", "1 -5/2"),
    ("3/5", "2/5", 1, "-3/25",
     "1/5*0:1:1 + 4/5*0:1:4", "9/10*1:1:3 + 1/10*4:1:1", "3/5 -2/5", "1 -3/5"),
    ("1/2", "1/40", 1, "-15/16",
     "15/16*0:1:1 + 1/16*0:1:5", "1*1:1:4", "-7/8 -1/40", "1 -1/2"),
    ("2", "1/2", 1, "-1/2",
     "1/2*0:1:1 + 1/2*0:1:2", "1*1:1:1", "0 -1/2", "1 -2"),
)


class ToldVerdicts(unittest.TestCase):
    def test_each_case(self):
        for cost_one, cost_two, ties, *texts in TOLD:
            verdict = solve_costs(number(cost_one), number(cost_two), ties=ties)
            self.assertEqual(texts_of_verdict(verdict), tuple(texts), (cost_one, cost_two, ties))

    def test_kind_costs_and_ties(self):
        for cost_one, cost_two, ties, *_ in TOLD:
            verdict = solve_costs(number(cost_one), number(cost_two), ties=ties)
            self.assertIsInstance(verdict, CostVerdict)
            self.assertEqual((verdict.cost_one, verdict.cost_two), (number(cost_one), number(cost_two)))
            self.assertEqual((verdict.mean_one, verdict.mean_two), (verdict.one.mean, verdict.two.mean))
            self.assertEqual(verdict.ties, ties)

    def test_ties_left_out_pay_nothing(self):
        self.assertEqual(texts_of_verdict(solve_costs(1, 1)), texts_of_verdict(solve_costs(1, 1, ties=0)))
        self.assertRaises(TypeError, solve_costs, 1, 1, 0)

    def test_all_numbers_are_ratios(self):
        for cost_one, cost_two, ties in product((1, 2, 3), (1, 2, 3), TIES):
            verdict = solve_costs(cost_one, cost_two, ties=ties)
            for each in numbers_of_verdict(verdict) + [verdict.cost_one, verdict.cost_two]:
                self.assertIsInstance(each, Ratio)
            same = solve_costs(Ratio(cost_one), Ratio(cost_two), ties=ties)
            self.assertEqual(texts_of_verdict(verdict), texts_of_verdict(same))

    def test_rows(self):
        self.assertEqual(solve_costs(Ratio(2, 5), Ratio(3, 8)).rows(), ["worth -1/20", "means 2 2", "costs 2/5 3/8"])


class Holding(unittest.TestCase):
    def check(self, cost_one, cost_two, ties):
        self.assertIs(solve_costs(cost_one, cost_two, ties=ties).holds(), True, (cost_one, cost_two, ties))

    def test_the_told_ones(self):
        for cost_one, cost_two, ties, *_ in TOLD:
            self.check(number(cost_one), number(cost_two), ties)

    def test_a_grid_of_costs(self):
        costs = [Ratio(1, under) for under in (1, 2, 3, 4, 5, 8, 40)]
        costs += [Ratio(2, under) for under in (1, 3, 5, 7, 9, 81)] + [Ratio(7, 4), Ratio(3, 7), Ratio(5, 13), 3]
        for cost_one, cost_two, ties in product(costs, costs, TIES):
            self.check(cost_one, cost_two, ties)

    def test_neither_side_can_do_better_strength_by_strength(self):
        costs = [Ratio(1, 3), Ratio(2, 3), Ratio(1, 2), Ratio(2, 7), 1, 2, 3]
        for cost_one, cost_two, ties in product(costs, costs, TIES):
            verdict = solve_costs(cost_one, cost_two, ties=ties)
            for y in range(12):
                sure = verdict.one.gain(y, ties=ties) - cost_one * verdict.mean_one + cost_two * y
                self.assertGreaterEqual(sure, verdict.worth)
                sure = verdict.two.gain(y, ties=-ties) - cost_two * verdict.mean_two + cost_one * y
                self.assertGreaterEqual(sure, -verdict.worth)

    def test_long_costs(self):
        costs = (Ratio(BIG + 1, 3 * BIG + 1), Ratio(BIG - 1, 7 * BIG + 9), Ratio(10 ** 29 + 3, BIG + 7), Ratio(1, BIG),
                 Ratio(2, 2 * BIG + 1), Ratio(7 * BIG + 1, BIG - 1), BIG)
        for cost_one, cost_two, ties in product(costs, costs, TIES):
            self.check(cost_one, cost_two, ties)


class Fields(unittest.TestCase):
    LISTS = ([1], [1000], [1, 1000], [3, 3], [5, 2, 5, 7], [9, 2, 1000, 14, 1, 6, 3, 77, 40, 5, 999, 8])
    COSTS = ((1, 1), (2, Ratio(1, 2)), (Ratio(3, 7), 5), (Ratio(7, 2), Ratio(7, 2)), (100, 90), (Ratio(1, BIG), 3))

    def cases(self):
        return product(self.LISTS, self.COSTS, TIES)

    def test_fields_in_the_order_of_the_worths(self):
        for worths, (cost_one, cost_two), ties in self.cases():
            found = priced(worths, cost_one, cost_two, ties=ties)
            self.assertIsInstance(found, Priced)
            self.assertIsInstance(found.fields, list)
            self.assertEqual([worth for worth, _ in found.fields], worths)
            for pair in found.fields:
                self.assertIsInstance(pair, tuple)
                worth, verdict = pair
                self.assertIs(type(worth), int)
                self.assertIsInstance(verdict, CostVerdict)
                told = solve_costs(Ratio(1, worth) * cost_one, Ratio(1, worth) * cost_two, ties=ties)
                self.assertEqual(texts_of_verdict(verdict), texts_of_verdict(told))
                self.assertEqual((verdict.cost_one, verdict.cost_two), (told.cost_one, told.cost_two))
                self.assertEqual(verdict.ties, ties)

    def test_totals_and_worth(self):
        for worths, (cost_one, cost_two), ties in self.cases():
            found = priced(worths, cost_one, cost_two, ties=ties)
            ones = sum(fraction(verdict.mean_one) for _, verdict in found.fields)
            twos = sum(fraction(verdict.mean_two) for _, verdict in found.fields)
            starts = sum(worth * fraction(verdict.floor_one.start) for worth, verdict in found.fields)
            for each in (found.total_one, found.total_two, found.worth):
                self.assertIsInstance(each, Ratio)
            self.assertEqual(found.total_one, ratio(ones))
            self.assertEqual(found.total_two, ratio(twos))
            self.assertEqual(found.worth, ratio(starts - fraction(cost_two) * twos))

    def test_the_worth_is_that_of_the_game_of_sums(self):
        for worths, (cost_one, cost_two), ties in self.cases():
            found = priced(worths, cost_one, cost_two, ties=ties)
            ones = [(worth, verdict.one) for worth, verdict in found.fields]
            self.assertEqual(best_over(ones, found.total_two, ties=ties).worth, found.worth)
            twos = [(worth, verdict.two) for worth, verdict in found.fields]
            self.assertEqual(best_over(twos, found.total_one, ties=-ties).worth, -found.worth)

    def test_an_example(self):
        found = priced([1, 4], 1, 2)
        # The field of worth 1 has costs 1 and 2, that of worth 4 has costs 1/4 and 1/2.
        self.assertEqual([str(verdict.worth) for _, verdict in found.fields], ["0", "1/2"])
        self.assertEqual([str(each) for each in (found.total_one, found.total_two, found.worth)], ["3", "3/2", "2"])
        self.assertEqual(priced([1, 4], 1, 2, ties=0).worth, 2)
        self.assertRaises(TypeError, priced, [1], 1, 1, 0)

    def test_worths_stay_as_they_are(self):
        worths = [3, 1]
        found = priced(worths, 1, 1)
        worths.append(2)
        self.assertEqual(len(found.fields), 2)
        self.assertEqual(worths, [3, 1, 2])


class Refusals(unittest.TestCase):
    def assert_bad(self, name, value, call, *rest, **more):
        with self.assertRaises(BadNumber) as caught:
            call(*rest, **more)
        self.assertEqual((caught.exception.name, caught.exception.value), (name, value))

    def test_of_solve_costs_in_their_order(self):
        self.assert_bad("ties", 3, solve_costs, 0, 0, ties=3)
        for ties in TIES:
            self.assert_bad("cost_one", 0, solve_costs, 0, 0, ties=ties)
            self.assert_bad("cost_one", -2, solve_costs, -2, -1, ties=ties)
            self.assert_bad("cost_one", Ratio(-1, BIG), solve_costs, Ratio(-1, BIG), 1, ties=ties)
            self.assert_bad("cost_two", 0, solve_costs, 1, 0, ties=ties)
            self.assert_bad("cost_two", Ratio(0), solve_costs, Ratio(1, BIG), Ratio(0), ties=ties)
            self.assert_bad("cost_two", Ratio(-1, 2), solve_costs, 1, Ratio(-1, 2), ties=ties)

    def test_of_priced_in_their_order(self):
        self.assert_bad("ties", -5, priced, [0] * 13, 0, 0, ties=-5)
        with self.assertRaises(TooMany) as caught:
            priced([0] * 13, 0, 0)
        self.assertEqual((caught.exception.name, caught.exception.most), ("fields", 12))
        self.assert_bad("fields", 0, priced, [], 0, 0)
        self.assert_bad("worth", 0, priced, [1, 0, 1001], 0, 0)
        self.assert_bad("worth", 1001, priced, [1000, 1001, 0], 0, 0)
        self.assert_bad("worth", -1, priced, [-1], 0, 0)
        # The costs are shown as they were passed.
        self.assert_bad("cost_one", -3, priced, [2], -3, 0)
        self.assert_bad("cost_one", 0, priced, [2], 0, 0)
        self.assert_bad("cost_two", -7, priced, [2, 3], 1, -7)
        self.assert_bad("cost_two", Ratio(-7, 2), priced, [2, 3], 1, Ratio(-7, 2))


if __name__ == "__main__":
    unittest.main()
