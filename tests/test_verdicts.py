import unittest

from fieldlots.blends import Blend
from fieldlots.lines import Line
from fieldlots.ratio import Ratio
from fieldlots.runs import Run
from fieldlots.verdicts import CostVerdict, Verdict

HALF = Ratio(1, 2)
ZERO = Run.point(0)


def sums(**changed):
    """The verdict on means 2 and 1 where ties pay nothing, with some values changed."""
    told = {
        "worth": HALF,
        "lots": (Blend.of_run(Run.odd(2)), Blend([(HALF, ZERO), (HALF, Run.even(2))])),
        "floors": (Line(1, -HALF), Line(Ratio(-1, 6), Ratio(-1, 6))),
        "means": (2, 1),
    }
    told.update(changed)
    return Verdict(told.pop("worth"), **told)


def sums_where_ties_pay_the_second(**changed):
    """The verdict on means 2 and 1/2 where ties pay the second side."""
    two = Blend([(Ratio(2, 3), ZERO), (Ratio(1, 3), Run.between(0, 3))])
    told = {
        "worth": Ratio(2, 3),
        "lots": (Blend.of_run(Run.between(1, 3)), two),
        "floors": (Line(1, Ratio(-2, 3)), Line(Ratio(-1, 3), Ratio(-1, 6))),
        "means": (2, HALF),
        "ties": -1,
    }
    told.update(changed)
    return Verdict(told.pop("worth"), **told)


def costs(**changed):
    """The verdict on costs 2/5 and 3/8 where ties pay nothing."""
    odd, even = Run.odd(2), Run.even(2)
    told = {
        "worth": Ratio(-1, 20),
        "lots": (Blend([(Ratio(1, 4), odd), (Ratio(3, 4), even)]), Blend([(Ratio(2, 5), odd), (Ratio(3, 5), even)])),
        "floors": (Line(Ratio(3, 4), Ratio(-3, 8)), Line(Ratio(4, 5), Ratio(-2, 5))),
        "costs": (Ratio(2, 5), Ratio(3, 8)),
    }
    told.update(changed)
    return CostVerdict(told.pop("worth"), **told)


def costs_where_ties_pay_the_second(**changed):
    """The verdict on costs 2/5 and 3/5 where ties pay the second side."""
    one = Blend([(Ratio(9, 10), Run.between(1, 3)), (Ratio(1, 10), Run.point(4))])
    two = Blend([(Ratio(1, 5), ZERO), (Ratio(4, 5), Run.between(0, 3))])
    told = {
        "worth": Ratio(3, 25),
        "lots": (one, two),
        "floors": (Line(1, Ratio(-3, 5)), Line(Ratio(3, 5), Ratio(-2, 5))),
        "costs": (Ratio(2, 5), Ratio(3, 5)),
        "ties": -1,
    }
    told.update(changed)
    return CostVerdict(told.pop("worth"), **told)


def exchanged(verdict):
    """The same verdict from the other side's point of view."""
    lots = (verdict.two, verdict.one)
    floors = (verdict.floor_two, verdict.floor_one)
    if isinstance(verdict, CostVerdict):
        prices = (verdict.cost_two, verdict.cost_one)
        return CostVerdict(-verdict.worth, lots=lots, floors=floors, costs=prices, ties=-verdict.ties)
    means = (verdict.mean_two, verdict.mean_one)
    return Verdict(-verdict.worth, lots=lots, floors=floors, means=means, ties=-verdict.ties)


class Attributes(unittest.TestCase):
    def test_of_a_verdict(self):
        one, two = Blend.point(2), Blend.point(1)
        floors = (Line(1, -1), Line(0, 0))
        verdict = Verdict(1, lots=(one, two), floors=floors, means=(2, HALF), ties=-1)
        self.assertIs(verdict.one, one)
        self.assertIs(verdict.two, two)
        self.assertEqual((verdict.floor_one, verdict.floor_two), floors)
        for number, value in ((verdict.worth, 1), (verdict.mean_one, 2), (verdict.mean_two, HALF)):
            self.assertIsInstance(number, Ratio)
            self.assertEqual(number, value)
        self.assertIs(type(verdict.ties), int)
        self.assertEqual(verdict.ties, -1)
        self.assertEqual(Verdict(1, lots=(one, two), floors=floors, means=(2, 1)).ties, 0)
        self.assertRaises(TypeError, Verdict, 1, (one, two), floors, (2, 1))

    def test_of_a_cost_verdict(self):
        one, two = Blend.of_run(Run.odd(3)), Blend.of_weights([(0, 1), (1, 1)])
        floors = (Line(1, -1), Line(0, 0))
        verdict = CostVerdict(1, lots=(one, two), floors=floors, costs=(2, HALF), ties=1)
        self.assertIsInstance(verdict, Verdict)
        self.assertEqual((verdict.one, verdict.two, verdict.floor_one, verdict.floor_two), (one, two) + floors)
        for number, value in ((verdict.worth, 1), (verdict.mean_one, 3), (verdict.mean_two, HALF),
                              (verdict.cost_one, 2), (verdict.cost_two, HALF)):
            self.assertIsInstance(number, Ratio)
            self.assertEqual(number, value)
        self.assertEqual(verdict.ties, 1)
        self.assertEqual(CostVerdict(1, lots=(one, two), floors=floors, costs=(1, 1)).ties, 0)
        self.assertRaises(TypeError, CostVerdict, 1, (one, two), floors, (1, 1))

    def test_methods_stand_in_the_classes(self):
        for name in ("__init__", "lines_hold", "means_fit", "holds", "rows"):
            self.assertIn(name, Verdict.__dict__)
        for name in ("__init__", "holds", "rows"):
            self.assertIn(name, CostVerdict.__dict__)


class Holding(unittest.TestCase):
    def assert_false(self, verdict, *, lines, means):
        self.assertIs(verdict.holds(), False)
        self.assertIs(verdict.lines_hold(), lines)
        self.assertIs(verdict.means_fit(), means)

    def test_verdicts_that_hold(self):
        for verdict in (sums(), sums_where_ties_pay_the_second(), costs(), costs_where_ties_pay_the_second()):
            for each in (verdict, exchanged(verdict)):
                self.assertIs(each.holds(), True)
                self.assertIs(each.lines_hold(), True)
                self.assertIs(each.means_fit(), True)

    def test_false_worth(self):
        for made in (sums, sums_where_ties_pay_the_second, costs, costs_where_ties_pay_the_second):
            for worth in (0, Ratio(-1, 3), made().worth + Ratio(1, 1000), -made().worth):
                self.assert_false(made(worth=worth), lines=True, means=True)

    def test_false_lots(self):
        one, two = sums().one, sums().two
        # These have the told means, but not the gains.
        self.assert_false(sums(lots=(Blend.point(2), two)), lines=False, means=True)
        self.assert_false(sums(lots=(one, Blend.point(1))), lines=False, means=True)
        self.assert_false(sums(lots=(two, one)), lines=False, means=False)
        # These are sure of more than the lines claim, with greater means.
        self.assert_false(sums(lots=(one + 2, two)), lines=True, means=False)
        self.assert_false(sums(lots=(Blend.of_run(Run.odd(3)), two)), lines=True, means=False)
        self.assert_false(sums(lots=(one, two + 8)), lines=True, means=False)

    def test_false_means(self):
        self.assert_false(sums(means=(2, Ratio(9, 10))), lines=True, means=False)
        self.assert_false(sums(means=(Ratio(21, 10), 1)), lines=True, means=False)
        # Here the lines meet at the told means.
        lower = Line(Ratio(-2, 3), Ratio(-1, 6))
        self.assert_false(sums(worth=1, floors=(Line(1, -HALF), lower), means=(2, 0)), lines=True, means=False)
        lower = Line(Ratio(2, 3), -HALF)
        self.assert_false(sums(worth=Ratio(1, 6), floors=(lower, Line(Ratio(-1, 6), Ratio(-1, 6))), means=(0, 1)),
                          lines=True, means=False)

    def test_false_floors(self):
        one, two = sums().floor_one, sums().floor_two
        tiny = Ratio(1, 1000)
        self.assert_false(sums(floors=(one + Line(-tiny, 0), two)), lines=True, means=True)
        self.assert_false(sums(floors=(one, two + Line(-tiny, 0))), lines=True, means=True)
        self.assert_false(sums(floors=(one + Line(tiny, 0), two)), lines=False, means=True)
        self.assert_false(sums(floors=(one, two + Line(tiny, 0))), lines=False, means=True)
        self.assert_false(sums(floors=(one + Line(0, -tiny), two)), lines=True, means=True)
        self.assert_false(sums(floors=(one, two + Line(0, -tiny))), lines=True, means=True)
        self.assert_false(sums(floors=(one + Line(0, tiny), two)), lines=False, means=True)
        self.assert_false(sums(floors=(one, two + Line(0, tiny))), lines=False, means=True)
        # These meet at the told means and worth.
        self.assert_false(sums(floors=(one + Line(-tiny, tiny), two)), lines=False, means=True)
        self.assert_false(sums(floors=(one, two + Line(-2 * tiny, tiny))), lines=False, means=True)

    def test_floors_that_fail_with_one_side_only(self):
        # With a worth that fits just one of the two lines.
        one, two = sums().floor_one, sums().floor_two
        lower = Line(Ratio(-1, 5), 0)
        self.assert_false(sums(worth=HALF - Ratio(1, 5), floors=(one + lower, two)), lines=True, means=True)
        self.assert_false(sums(worth=HALF + Ratio(1, 5), floors=(one, two + lower)), lines=True, means=True)

    def test_false_ties(self):
        self.assert_false(sums(ties=-1), lines=False, means=True)
        self.assert_false(sums(ties=1), lines=False, means=True)
        self.assert_false(sums_where_ties_pay_the_second(ties=0), lines=False, means=True)
        self.assert_false(sums_where_ties_pay_the_second(ties=1), lines=False, means=True)
        self.assert_false(costs(ties=-1), lines=False, means=True)
        self.assert_false(costs(ties=1), lines=False, means=True)
        self.assert_false(costs_where_ties_pay_the_second(ties=0), lines=False, means=True)
        self.assert_false(costs_where_ties_pay_the_second(ties=1), lines=False, means=True)

    def test_false_lots_of_a_cost_verdict(self):
        one, two = costs().one, costs().two
        self.assert_false(costs(lots=(Blend.point(2), two)), lines=False, means=True)
        self.assert_false(costs(lots=(one, Blend.point(2))), lines=False, means=True)
        # These are sure of more than the lines claim, at a greater cost.
        self.assert_false(costs(lots=(Blend.of_run(Run.odd(3)), two)), lines=True, means=True)
        more = costs_where_ties_pay_the_second()
        lots = (Blend([(Ratio(9, 10), Run.between(1, 3)), (Ratio(1, 10), Run.point(9))]), more.two)
        self.assert_false(costs_where_ties_pay_the_second(lots=lots), lines=True, means=True)

    def test_false_floors_of_a_cost_verdict(self):
        one, two = costs().floor_one, costs().floor_two
        tiny = Ratio(1, 1000)
        for change in (Line(-tiny, 0), Line(0, -tiny)):
            self.assert_false(costs(floors=(one + change, two)), lines=True, means=True)
            self.assert_false(costs(floors=(one, two + change)), lines=True, means=True)
        for change in (Line(tiny, 0), Line(0, tiny)):
            self.assert_false(costs(floors=(one + change, two)), lines=False, means=True)
            self.assert_false(costs(floors=(one, two + change)), lines=False, means=True)
        # With a worth that fits just one of the two lines.
        self.assert_false(costs(worth=Ratio(-1, 4), floors=(one + Line(Ratio(-1, 5), 0), two)), lines=True, means=True)
        self.assert_false(costs(worth=Ratio(3, 20), floors=(one, two + Line(Ratio(-1, 5), 0))), lines=True, means=True)
        # With a worth that fits both, and lines that are too high.
        high = (one + Line(tiny, 0), two + Line(-tiny, 0))
        self.assert_false(costs(worth=Ratio(-1, 20) + tiny, floors=high), lines=False, means=True)
        high = (one + Line(-tiny, 0), two + Line(tiny, 0))
        self.assert_false(costs(worth=Ratio(-1, 20) - tiny, floors=high), lines=False, means=True)

    def test_false_costs(self):
        for made in (costs, costs_where_ties_pay_the_second):
            one, two = made().cost_one, made().cost_two
            for change in (Ratio(1, 1000), Ratio(-1, 1000)):
                self.assert_false(made(costs=(one + change, two)), lines=True, means=True)
                self.assert_false(made(costs=(one, two + change)), lines=True, means=True)
            self.assert_false(made(costs=(two, one)), lines=True, means=True)

    def test_false_costs_of_a_side_that_sends_nothing(self):
        # The worth does not feel this cost, the slope of the other side's line does.
        none = Blend.point(0)
        told = {"lots": (none, none), "floors": (Line(0, -2), Line(0, -3))}
        self.assertIs(CostVerdict(0, costs=(3, 2), **told).holds(), True)
        self.assertIs(CostVerdict(0, costs=(4, 2), **told).holds(), False)
        self.assertIs(CostVerdict(0, costs=(3, 1), **told).holds(), False)

    def test_huge_runs(self):
        many = 10 ** 30
        means = (many, many)
        blend = Blend.of_run(Run.even(many))
        floor = Line(Ratio(many, many + 1), Ratio(-1, many + 1))
        self.assertIs(Verdict(0, lots=(blend, blend), floors=(floor, floor), means=means).holds(), True)
        self.assertIs(Verdict(0, lots=(blend, blend + 1), floors=(floor, floor), means=means).holds(), False)


class Rows(unittest.TestCase):
    def test_of_a_verdict(self):
        self.assertEqual(sums().rows(), ["worth 1/2", "means 2 1"])
        lots = (Blend.point(2), Blend.point(1))
        floors = (Line(0, 0), Line(0, 0))
        shown = Verdict(Ratio(-7, 3), lots=lots, floors=floors, means=(Ratio(4, 6), Ratio(-4, 2))).rows()
        self.assertEqual(shown, ["worth -7/3", "means 2/3 -2"])
        shown = Verdict(-4, lots=lots, floors=floors, means=(0, 10 ** 30)).rows()
        self.assertEqual(shown, ["worth -4", "means 0 1" + "0" * 30])

    def test_of_a_cost_verdict(self):
        self.assertEqual(costs().rows(), ["worth -1/20", "means 2 2", "costs 2/5 3/8"])
        lots = (Blend.of_weights([(0, 1), (1, 1)]), Blend.point(1))
        shown = CostVerdict(3, lots=lots, floors=(Line(0, 0), Line(0, 0)), costs=(2, Ratio(-6, 4))).rows()
        self.assertEqual(shown, ["worth 3", "means 1/2 1", "costs 2 -3/2"])

    def test_rows_are_anew(self):
        verdict = costs()
        verdict.rows().clear()
        self.assertEqual(len(verdict.rows()), 3)


if __name__ == "__main__":
    unittest.main()
