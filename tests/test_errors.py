import unittest

from fieldlots import errors
from fieldlots.answers import best_answer, best_over
from fieldlots.blends import Blend, meet
from fieldlots.breach import first_breach
from fieldlots.costs import priced, solve_costs
from fieldlots.errors import BadNumber, LotError
from fieldlots.grounds import Ground, spread_gain
from fieldlots.lines import Line
from fieldlots.making import bridge
from fieldlots.plans import Plan, plan_gain, plans_gain
from fieldlots.ratio import Ratio
from fieldlots.replies import best_reply
from fieldlots.rounds import Rounds
from fieldlots.rowgame import least_forces, row_game, row_pay
from fieldlots.runs import Run, run_gain
from fieldlots.sums import solve
from fieldlots.truegame import TrueGame, true_game
from fieldlots.verdicts import CostVerdict, Verdict

NAMES = ("ZeroUnder BadNumber BadShares NoPlace TooMany Mismatch BadSpread NoLimit NotTiled BadMove "
         "NothingLeft NeverSeen BadText BadLine").split()


class ErrorClasses(unittest.TestCase):
    def test_base(self):
        self.assertEqual(LotError.__bases__, (ValueError,))
        self.assertEqual(LotError.__module__, "fieldlots.errors")

    def test_each_is_directly_below_the_base(self):
        for name in NAMES:
            made = getattr(errors, name)
            self.assertEqual(made.__bases__, (LotError,), name)
            self.assertEqual(made.__module__, "fieldlots.errors")

    def test_attributes(self):
        number = Ratio(-1, 2)
        bad = errors.BadNumber("total", number)
        self.assertEqual(bad.name, "total")
        self.assertIs(bad.value, number)
        many = errors.TooMany("parts", 64)
        self.assertEqual((many.name, many.most), ("parts", 64))
        self.assertEqual(errors.NoLimit(3).column, 3)
        self.assertEqual(errors.NotTiled(4).part, 4)
        self.assertEqual(errors.BadText(5).at, 5)
        self.assertEqual(errors.BadLine(6).number, 6)

    def test_others_are_raised_with_a_message(self):
        for name in "ZeroUnder BadShares NoPlace Mismatch BadSpread BadMove NothingLeft NeverSeen".split():
            with self.assertRaises(LotError) as caught:
                raise getattr(errors, name)("a message")
            self.assertEqual(str(caught.exception), "a message")

    def test_a_number_of_many_figures(self):
        with self.assertRaises(BadNumber) as caught:
            Run(-10 ** 5000, 1, 1)
        self.assertEqual(caught.exception.value, -10 ** 5000)


class TiesAreCheckedFirst(unittest.TestCase):
    def refused(self, call, *rest, **more):
        for ties in (2, -2, 7, 10 ** 40):
            with self.assertRaises(BadNumber) as caught:
                call(*rest, ties=ties, **more)
            self.assertEqual((caught.exception.name, caught.exception.value), ("ties", ties))

    def test_runs_and_blends(self):
        blend = Blend.point(2)
        self.refused(Run.point(2).gain, 1)
        self.refused(Run.point(2).gain, -1)
        self.refused(run_gain, Run.point(2), Run.odd(3))
        self.refused(blend.gain, 1)
        self.refused(meet, blend, blend)

    def test_claims_and_answers(self):
        blend = Blend.point(2)
        self.refused(first_breach, blend, Line(-2, 0))
        self.refused(best_over, [(1, blend)] * 13, 0)
        self.refused(best_over, [], -1)
        self.refused(best_over, [(0, blend)], -1)
        self.refused(best_over, [(1, blend)], -1)
        self.refused(best_answer, blend, -1)

    def test_verdicts(self):
        lots = (Blend.point(2), Blend.point(2))
        floors = (Line(0, 0), Line(0, 0))
        self.refused(Verdict, 0, lots=lots, floors=floors, means=(2, 2))
        self.refused(CostVerdict, 0, lots=lots, floors=floors, costs=(1, 1))

    def test_sums_and_costs(self):
        self.refused(solve, -1, -1)
        self.refused(solve_costs, 0, 0)
        self.refused(priced, [0] * 13, 0, 0)
        self.refused(priced, [], 0, 0)

    def test_spreads_and_plans(self):
        ground = Ground.plain(2)
        plan = Plan(ground, [(1, ((2, 1),))])
        other = Plan(Ground.plain(1), [(1, ((3,),))])
        self.refused(spread_gain, ground, (), ())
        self.refused(plan_gain, plan, ())
        self.refused(plans_gain, plan, other)
        self.refused(best_reply, plan, -1)
        self.refused(true_game, ground, -1, -1)
        self.refused(true_game, ground, 40, 40)
        self.refused(TrueGame, 0, plan, plan)

    def test_making_rows_and_rounds(self):
        self.refused(bridge, 0, -1, -1)
        self.refused(row_pay, (1,), (), [])
        self.refused(least_forces, (), 0)
        self.refused(row_game, 0, (-1, -1), [])
        self.refused(Rounds, [], -1, -1)

    def test_ties_are_passed_by_keyword_and_may_be_left_out(self):
        two = Run.point(2)
        blend = Blend.point(2)
        self.assertEqual(two.gain(2), 0)
        self.assertEqual(run_gain(two, two), 0)
        self.assertEqual(blend.gain(2), 0)
        self.assertEqual(meet(blend, blend), 0)
        self.assertEqual(best_answer(Blend.point(0), 0).worth, 0)
        self.assertEqual(best_over([(5, Blend.point(0))], 0).worth, 0)
        self.assertIsNone(first_breach(blend, Line(1, Ratio(-2, 3))))
        self.assertEqual(first_breach(blend, Line(0, 0)), 3)
        for call in (lambda: two.gain(2, 0), lambda: run_gain(two, two, 0), lambda: blend.gain(2, 0),
                     lambda: meet(blend, blend, 0), lambda: first_breach(blend, Line(0, 0), 0),
                     lambda: best_over([(1, blend)], 1, 0), lambda: best_answer(blend, 1, 0)):
            self.assertRaises(TypeError, call)


class ArgumentsStayAsTheyAre(unittest.TestCase):
    def test_blend_copies_its_parts(self):
        parts = [(Ratio(1, 2), Run.point(1)), (0, Run.point(5)), (Ratio(1, 4), Run.point(2)), (Ratio(1, 4), Run.point(1))]
        before = list(parts)
        blend = Blend(parts)
        self.assertEqual(parts, before)
        parts.clear()
        self.assertEqual(blend.parts, [(Ratio(3, 4), Run.point(1)), (Ratio(1, 4), Run.point(2))])

    def test_parts_of_another_blend_are_copied(self):
        blend = Blend.of_weights([(1, 1), (2, 1)])
        other = Blend(blend.parts)
        self.assertIsNot(other.parts, blend.parts)
        self.assertEqual(other, blend)

    def test_weights_and_blends_stay(self):
        weights = [(1, 2), (3, 0), (1, 1)]
        before = list(weights)
        blend = Blend.of_weights(weights)
        self.assertEqual(weights, before)
        parts = list(blend.parts)
        blend + 4
        blend.mixed(Ratio(1, 2), Blend.point(9))
        meet(blend, blend)
        blend.gain(1)
        self.assertEqual(blend.parts, parts)

    def test_fields_stay(self):
        fields = [(3, Blend.point(2)), (1, Blend.of_run(Run.odd(3)))]
        before = list(fields)
        best_over(fields, 3)
        self.assertEqual(fields, before)


if __name__ == "__main__":
    unittest.main()
