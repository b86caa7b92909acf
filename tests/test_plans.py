import itertools
import unittest
from fractions import Fraction

from fieldlots.blends import Blend
from fieldlots.errors import BadNumber, BadShares, BadSpread, Mismatch, TooMany
from fieldlots.grounds import Ground, spread_gain
from fieldlots.plans import Plan, plan_gain, plans_gain
from fieldlots.ratio import Ratio
from fieldlots.runs import Run
from tests.helpers import TIES, fraction, ratio, walked_spread_gain

HALF = Ratio(1, 2)
THIRD = Ratio(1, 3)
QUARTER = Ratio(1, 4)
PLAIN = Ground.plain(2)
MIXED = Ground((5, 2), (3, 1))


def mixed_plan():
    return Plan(MIXED, [(HALF, ((2, 1), (0,))), (THIRD, ((1, 1), (1,))), (Ratio(1, 6), ((0, 0), (3,)))])


class Making(unittest.TestCase):
    def test_attributes(self):
        plan = Plan(PLAIN, [(HALF, ((2, 1),)), (HALF, ((3, 0),))])
        self.assertIs(plan.ground, PLAIN)
        self.assertEqual(plan.parts, [(HALF, ((2, 1),)), (HALF, ((3, 0),))])
        self.assertIsInstance(plan.parts, list)
        self.assertIsInstance(plan.parts[0], tuple)
        self.assertEqual(plan.forces, 3)
        self.assertIs(type(plan.forces), int)

    def test_shares_become_ratios(self):
        plan = Plan(PLAIN, [(1, ((2, 1),))])
        self.assertIsInstance(plan.parts[0][0], Ratio)

    def test_parts_without_a_share_are_left_out(self):
        plan = Plan(PLAIN, [(0, ((3, 0),)), (1, ((2, 1),)), (Ratio(0), ((2, 1),))])
        self.assertEqual(plan.parts, [(1, ((2, 1),))])

    def test_equal_spreads_are_put_together_at_the_first_with_a_share(self):
        plan = Plan(PLAIN, [(0, ((4, 0),)), (QUARTER, ((3, 1),)), (QUARTER, ((4, 0),)), (QUARTER, ((2, 2),)),
                            (Ratio(1, 8), ((4, 0),)), (Ratio(1, 8), ((3, 1),))])
        self.assertEqual(plan.parts, [(Ratio(3, 8), ((3, 1),)), (Ratio(3, 8), ((4, 0),)), (QUARTER, ((2, 2),))])

    def test_64_and_65_pairs(self):
        ground = Ground((1, 2), (1, 2))
        some = list(ground.spreads(12))[:64]
        pairs = [(Ratio(1, 64), spread) for spread in some]
        self.assertEqual(len(Plan(ground, pairs)), 64)
        for more in ([(0, some[0])], [(-1, some[0])], [(0, ())]):
            with self.assertRaises(TooMany) as caught:
                Plan(ground, pairs + more)
            self.assertEqual((caught.exception.name, caught.exception.most), ("parts", 64))
        with self.assertRaises(TooMany):
            Plan(ground, [(Ratio(1, 65), some[0])] * 65)
        self.assertEqual(len(Plan(ground, [(Ratio(1, 64), some[0])] * 64)), 1)

    def test_bad_shares(self):
        one, other = ((2, 1),), ((3, 0),)
        for parts in ([], [(Ratio(9, 10), one)], [(Ratio(11, 10), one)], [(0, one)], [(-1, one), (2, other)],
                      [(2, one), (-1, other)], [(2, one)], [(HALF, one), (THIRD, other)]):
            self.assertRaises(BadShares, Plan, PLAIN, parts)
        # Shares are checked ahead of spreads.
        self.assertRaises(BadShares, Plan, PLAIN, [(HALF, ()), (THIRD, ((4, 0),))])

    def test_bad_spreads_and_unlike_forces_in_their_order(self):
        good, bad, less, more = ((2, 1),), ((1, 2),), ((1, 1),), ((4, 0),)
        self.assertRaises(BadSpread, Plan, PLAIN, [(1, bad)])
        self.assertRaises(BadSpread, Plan, PLAIN, [(1, good), (0, bad)])
        self.assertRaises(BadSpread, Plan, PLAIN, [(0, bad), (1, good)])
        self.assertRaises(Mismatch, Plan, PLAIN, [(HALF, good), (HALF, less)])
        self.assertRaises(Mismatch, Plan, PLAIN, [(1, good), (0, more)])
        self.assertRaises(Mismatch, Plan, PLAIN, [(0, less), (1, good)])
        self.assertRaises(Mismatch, Plan, PLAIN, [(HALF, good), (QUARTER, less), (QUARTER, bad)])
        self.assertRaises(Mismatch, Plan, PLAIN, [(1, good), (0, less), (0, bad)])
        self.assertRaises(BadSpread, Plan, PLAIN, [(HALF, good), (QUARTER, bad), (QUARTER, less)])
        self.assertRaises(BadSpread, Plan, PLAIN, [(1, good), (0, bad), (0, less)])
        self.assertRaises(BadSpread, Plan, PLAIN, [(1, ((41, 0),))])

    def test_the_parts_are_copied(self):
        parts = [(HALF, ((2, 1),)), (0, ((3, 0),)), (HALF, ((2, 1),))]
        before = list(parts)
        plan = Plan(PLAIN, parts)
        self.assertEqual(parts, before)
        parts.clear()
        self.assertEqual(plan.parts, [(1, ((2, 1),))])
        self.assertIsNot(Plan(PLAIN, plan.parts).parts, plan.parts)


class Reading(unittest.TestCase):
    def test_shares(self):
        plan = mixed_plan()
        for spread, share in ((((2, 1), (0,)), HALF), (((1, 1), (1,)), THIRD), (((0, 0), (3,)), Ratio(1, 6)),
                              (((3, 0), (0,)), 0), (((1, 2), (0,)), 0), (((1, 1),), 0), ((), 0)):
            self.assertIsInstance(plan[spread], Ratio)
            self.assertEqual(plan[spread], share)
            self.assertIs(spread in plan, share != 0)
            self.assertIs(spread not in plan, share == 0)

    def test_parts_without_a_share_are_not_in_the_plan(self):
        plan = Plan(PLAIN, [(1, ((2, 1),)), (0, ((3, 0),))])
        self.assertIs(((3, 0),) in plan, False)
        self.assertEqual(plan[((3, 0),)], 0)

    def test_length_and_iteration(self):
        plan = mixed_plan()
        self.assertEqual(len(plan), 3)
        self.assertEqual(list(plan), plan.parts)
        self.assertEqual([spread for _, spread in plan], [((2, 1), (0,)), ((1, 1), (1,)), ((0, 0), (3,))])
        for share, _ in plan:
            self.assertIsInstance(share, Ratio)

    def test_methods_stand_in_the_class(self):
        for name in ("__init__", "__getitem__", "__contains__", "__len__", "__iter__", "margins", "mixed"):
            self.assertIn(name, Plan.__dict__)


class Margins(unittest.TestCase):
    def walked(self, plan, at, many):
        """Pairs of a chance and a strength on one field of the class, ascending."""
        chances = {}
        for share, spread in plan.parts:
            for strength in spread[at]:
                chances[strength] = chances.get(strength, 0) + fraction(share) / many
        return [(ratio(chances[strength]), Run.point(strength)) for strength in sorted(chances)]

    def test_an_example(self):
        first, second = mixed_plan().margins()
        self.assertEqual(first.parts, [(Ratio(1, 6), Run.point(0)), (Ratio(7, 12), Run.point(1)), (QUARTER, Run.point(2))])
        self.assertEqual(second.parts, [(HALF, Run.point(0)), (THIRD, Run.point(1)), (Ratio(1, 6), Run.point(3))])

    def test_against_a_count(self):
        for ground, forces in ((PLAIN, 7), (MIXED, 5), (Ground((1, 3), (2, 1), (3, 2), (4, 1)), 4)):
            some = list(ground.spreads(forces))[:40:2]
            weights = range(1, len(some) + 1)
            plan = Plan(ground, [(Ratio(weight, sum(weights)), spread) for weight, spread in zip(weights, some)])
            margins = plan.margins()
            self.assertIsInstance(margins, list)
            self.assertEqual(len(margins), len(ground.classes))
            for at, (margin, (_, many)) in enumerate(zip(margins, ground.classes)):
                self.assertIsInstance(margin, Blend)
                self.assertEqual(margin.parts, self.walked(plan, at, many))

    def test_41_strengths(self):
        plan = Plan(PLAIN, [(Ratio(1, 21), ((40 - k, k),)) for k in range(21)])
        margin, = plan.margins()
        self.assertEqual([run.first for _, run in margin.parts], list(range(41)))
        self.assertEqual([share for share, _ in margin.parts], [Ratio(1, 42)] * 20 + [Ratio(1, 21)] + [Ratio(1, 42)] * 20)


class Mixing(unittest.TestCase):
    def test_own_parts_first(self):
        one = Plan(PLAIN, [(HALF, ((4, 0),)), (HALF, ((3, 1),))])
        other = Plan(PLAIN, [(THIRD, ((3, 1),)), (1 - THIRD, ((2, 2),))])
        mixed = one.mixed(QUARTER, other)
        self.assertIsInstance(mixed, Plan)
        self.assertEqual(mixed.parts, [(Ratio(1, 8), ((4, 0),)), (Ratio(3, 8), ((3, 1),)), (HALF, ((2, 2),))])
        self.assertEqual((mixed.ground, mixed.forces), (PLAIN, 4))
        self.assertEqual(one.parts, [(HALF, ((4, 0),)), (HALF, ((3, 1),))])

    def test_whole_shares(self):
        one, other = Plan(PLAIN, [(1, ((4, 0),))]), Plan(Ground.plain(2), [(1, ((2, 2),))])
        self.assertEqual(one.mixed(1, other).parts, one.parts)
        self.assertEqual(one.mixed(0, other).parts, other.parts)
        self.assertEqual(one.mixed(Ratio(1), other).parts, one.parts)

    def test_refusals_in_their_order(self):
        one = Plan(PLAIN, [(1, ((4, 0),))])
        self.assertRaises(Mismatch, one.mixed, HALF, Plan(PLAIN, [(1, ((2, 1),))]))
        self.assertRaises(Mismatch, one.mixed, HALF, Plan(Ground((2, 2)), [(1, ((2, 2),))]))
        self.assertRaises(Mismatch, one.mixed, 1, Plan(Ground((1, 1), (1, 1)), [(1, ((2,), (2,)))]))
        self.assertRaises(Mismatch, one.mixed, 7, Plan(PLAIN, [(1, ((2, 1),))]))
        for share in (2, -1, Ratio(-1, 9), Ratio(10, 9)):
            self.assertRaises(BadShares, one.mixed, share, one)
        ground = Ground((1, 2), (1, 2))
        some = list(ground.spreads(12))[:33]
        many = Plan(ground, [(Ratio(1, 33), spread) for spread in some])
        for share in (1, 2, HALF):
            with self.assertRaises(TooMany) as caught:
                many.mixed(share, many)
            self.assertEqual((caught.exception.name, caught.exception.most), ("parts", 64))


class Gains(unittest.TestCase):
    GROUNDS = (([(1, 2)], 4, 3), ([(5, 2), (3, 1)], 3, 4), ([(1, 1), (7, 1), (2, 2)], 3, 3), ([(2, 3)], 6, 5))

    def plans(self, ground, forces):
        some = list(ground.spreads(forces))
        weights = range(1, len(some) + 1)
        yield Plan(ground, [(1, some[0])])
        yield Plan(ground, [(Ratio(weight, sum(weights)), spread) for weight, spread in zip(weights, some)])

    def test_of_a_plan_against_a_walk(self):
        for classes, own, facing in self.GROUNDS:
            ground = Ground(*classes)
            for plan, ties in itertools.product(self.plans(ground, own), TIES):
                for spread in ground.spreads(facing):
                    walked = sum(fraction(share) * walked_spread_gain(classes, part, spread, ties)
                                 for share, part in plan.parts)
                    gain = plan_gain(plan, spread, ties=ties)
                    self.assertIsInstance(gain, Ratio)
                    self.assertEqual(gain, ratio(walked))

    def test_of_two_plans_against_the_sum_over_their_parts(self):
        for classes, own, facing in self.GROUNDS:
            ground = Ground(*classes)
            for one, other, ties in itertools.product(self.plans(ground, own), self.plans(Ground(*classes), facing), TIES):
                total = Fraction(0)
                for (share, spread), (part, against) in itertools.product(one.parts, other.parts):
                    total += fraction(share * part * spread_gain(ground, spread, against, ties=ties))
                gain = plans_gain(one, other, ties=ties)
                self.assertIsInstance(gain, Ratio)
                self.assertEqual(gain, ratio(total))

    def test_ties_left_out_pay_nothing(self):
        plan = Plan(PLAIN, [(1, ((2, 1),))])
        self.assertEqual([plan_gain(plan, ((2, 1),), ties=ties) for ties in TIES], [-1, 0, 1])
        self.assertEqual(plan_gain(plan, ((2, 1),)), 0)
        self.assertEqual(plans_gain(plan, plan), 0)
        self.assertRaises(TypeError, plan_gain, plan, ((2, 1),), 0)
        self.assertRaises(TypeError, plans_gain, plan, plan, 0)

    def test_refusals(self):
        plan = Plan(PLAIN, [(1, ((2, 1),))])
        for spread in ((), ((1,),), ((1, 2),), ((41, 0),), ((1, -1),), ((2, 1), (0,))):
            self.assertRaises(BadSpread, plan_gain, plan, spread)
        for ground, spread in ((Ground((2, 2)), ((2, 1),)), (Ground((1, 1), (1, 1)), ((2,), (1,))), (MIXED, ((2, 1), (0,)))):
            other = Plan(ground, [(1, spread)])
            self.assertRaises(Mismatch, plans_gain, plan, other)
            self.assertRaises(Mismatch, plans_gain, other, plan)
            for call in (lambda: plan_gain(plan, (), ties=2), lambda: plans_gain(plan, other, ties=2)):
                with self.assertRaises(BadNumber) as caught:
                    call()
                self.assertEqual((caught.exception.name, caught.exception.value), ("ties", 2))


if __name__ == "__main__":
    unittest.main()
