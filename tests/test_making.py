import random
import unittest
from itertools import combinations_with_replacement, product

from fieldlots.blends import Blend
from fieldlots.grounds import Ground
from fieldlots.making import Bridge, Making, bridge, make
from fieldlots.plans import Plan
from fieldlots.ratio import Ratio
from fieldlots.runs import Run
from fieldlots.sums import solve
from fieldlots.truegame import true_game
from tests.helpers import BIG, TIES, fraction, refused, small_blends, text_of_blend, texts_of_verdict, walked_chance


def walked_strengths(blend):
    """The strengths that have a chance, ascending, by a walk."""
    return [k for k in range(blend.greatest + 1) if walked_chance(blend, k) > 0]


def walked_rows(blend, fields):
    """All descending tuples of strengths with a chance that have the right sum."""
    wanted = fields * sum(k * walked_chance(blend, k) for k in walked_strengths(blend))
    return [row[::-1] for row in combinations_with_replacement(walked_strengths(blend), fields) if sum(row) == wanted]


class Makings(unittest.TestCase):
    def check_numbers(self, made, blend, fields):
        self.assertIsInstance(made, Making)
        self.assertEqual(made.fields, fields)
        self.assertIs(type(made.fields), int)
        for each in [made.share] + [share for share, _ in made.parts] + [price for _, price in made.prices]:
            self.assertIsInstance(each, Ratio)
        for part in made.parts + made.prices:
            self.assertIsInstance(part, tuple)
        self.assertIsInstance(made.parts, list)
        self.assertIsInstance(made.prices, list)

    def check_parts(self, made, blend, rows):
        dealt = [row for _, row in made.parts]
        self.assertEqual(len(dealt), len(set(dealt)))
        for share, row in made.parts:
            self.assertIn(row, rows)
            self.assertGreater(share, 0)
        self.assertEqual(sum(fraction(share) for share, _ in made.parts), fraction(made.share))
        self.assertLessEqual(made.share, 1)
        for k in walked_strengths(blend):
            used = sum(fraction(share) * row.count(k) for share, row in made.parts)
            self.assertLessEqual(used, made.fields * walked_chance(blend, k))

    def check_prices(self, made, blend, rows):
        self.assertEqual([k for k, _ in made.prices], walked_strengths(blend))
        prices = {k: fraction(price) for k, price in made.prices}
        self.assertGreaterEqual(min(prices.values()), 0)
        for row in rows:
            self.assertGreaterEqual(sum(prices[k] for k in row), 1)
        spent = sum(made.fields * walked_chance(blend, k) * price for k, price in prices.items())
        self.assertEqual(spent, fraction(made.share))

    def check_plan(self, made, blend):
        plan = made.plan()
        if made.share < 1:
            self.assertIsNone(plan)
            return
        self.assertIsInstance(plan, Plan)
        self.assertEqual(plan.ground, Ground.plain(made.fields))
        self.assertEqual(plan.parts, [(share, (row,)) for share, row in made.parts])
        margin, = plan.margins()
        for k in range(blend.greatest + 2):
            self.assertEqual(fraction(margin[k]), walked_chance(blend, k))

    def check(self, blend, fields):
        made = make(blend, fields)
        rows = walked_rows(blend, fields)
        self.check_numbers(made, blend, fields)
        self.check_parts(made, blend, rows)
        self.check_prices(made, blend, rows)
        self.check_plan(made, blend)
        return made

    def test_the_example(self):
        made = self.check(Blend.of_weights([(0, 1), (1, 1), (2, 1), (5, 1)]), 2)
        self.assertEqual(str(made.share), "1/4")
        self.assertEqual(made.parts, [(Ratio(1, 4), (2, 2))])
        self.assertIsNone(made.plan())

    def test_all_blends_of_small_weights(self):
        ends = {"dealt": 0, "short": 0, "none": 0, "many": 0, "unlike": 0}
        for weights, fields in product(product(range(3), repeat=5), range(1, 9)):
            if fields > 4 and sum(weights) > 5 or not sum(weights):
                continue
            blend = Blend.of_weights(list(enumerate(weights)))
            if (fields * blend.mean).under > 1:
                self.assertEqual(refused(make, blend, fields), ("Mismatch",))
                ends["unlike"] += 1
            elif len(walked_rows(blend, fields)) > 12:
                self.assertEqual(refused(make, blend, fields), ("TooMany", "spreads", 12))
                ends["many"] += 1
            else:
                made = self.check(blend, fields)
                ends["dealt" if made.share == 1 else "short" if made.parts else "none"] += 1
        for end, number in ends.items():
            self.assertGreater(number, 2, end)

    def test_blends_of_runs(self):
        tried = 0
        for blend, fields in product(small_blends(), range(1, 9)):
            forces = fields * blend.mean
            if forces.under == 1 and forces <= 40 and len(walked_rows(blend, fields)) <= 12:
                self.check(blend, fields)
                tried += 1
        self.assertGreater(tried, 10)

    def test_random_blends(self):
        chance = random.Random(25)
        tried = 0
        while tried < 60:
            weights = [(chance.randrange(10), chance.randrange(1, 5)) for _ in range(chance.randrange(1, 8))]
            fields = chance.randrange(1, 9)
            blend = Blend.of_weights(weights)
            forces = fields * blend.mean
            if forces.under == 1 and forces <= 40 and len(walked_rows(blend, fields)) <= 12:
                self.check(blend, fields)
                tried += 1

    def test_blends_that_spreads_deal(self):
        chance = random.Random(26)
        tried = 0
        while tried < 40:
            fields = chance.randrange(1, 9)
            ground = Ground.plain(fields)
            forces = chance.randrange(0, 13)
            some = list(ground.spreads(forces))
            taken = [some[chance.randrange(len(some))] for _ in range(chance.randrange(1, 4))]
            margin, = Plan(ground, [(Ratio(1, len(taken)), spread) for spread in taken]).margins()
            if len(walked_rows(margin, fields)) <= 12:
                self.assertEqual(self.check(margin, fields).share, 1)
                tried += 1

    def test_one_field(self):
        self.assertEqual(self.check(Blend.point(40), 1).parts, [(1, (40,))])
        self.assertEqual(self.check(Blend.point(0), 1).plan().parts, [(1, ((0,),))])
        made = self.check(Blend.of_weights([(0, 1), (2, 2), (4, 1)]), 1)
        self.assertEqual((made.share, made.parts), (Ratio(1, 2), [(Ratio(1, 2), (2,))]))

    def test_no_row_at_all(self):
        for weights, fields in (([(0, 1), (2, 1)], 1), ([(0, 2), (3, 1)], 4), ([(1, 1), (4, 2)], 1)):
            made = self.check(Blend.of_weights(weights), fields)
            self.assertEqual((made.share, made.parts), (0, []))
            self.assertIsInstance(made.share, Ratio)
            self.assertEqual([price for _, price in made.prices], [0] * len(weights))
            self.assertIsNone(made.plan())

    def test_strengths_far_beyond_the_forces(self):
        made = make(Blend([(Ratio(1, BIG), Run.point(BIG)), (1 - Ratio(1, BIG), Run.point(0))]), 2)
        self.assertEqual((made.share, made.parts), (0, []))
        self.assertEqual(made.prices, [(0, 0), (BIG, 0)])

    def test_parts_in_several_runs(self):
        # 2 has a chance in both runs, but it is one strength.
        blend = Blend([(Ratio(1, 2), Run(0, 2, 3)), (Ratio(1, 2), Run(1, 1, 3))])
        made = self.check(blend, 2)
        self.assertEqual([k for k, _ in made.prices], [0, 1, 2, 3, 4])

    def test_the_blend_stays(self):
        blend = Blend.of_weights([(0, 1), (1, 1), (2, 1)])
        text = text_of_blend(blend)
        made = make(blend, 3)
        made.parts.clear()
        made.prices.clear()
        self.assertEqual(text_of_blend(blend), text)
        self.assertEqual(make(blend, 3).share, 1)
        parts, prices = [(Ratio(1), (1,))], [(1, Ratio(1))]
        kept = Making(1, Ratio(1), parts, prices)
        parts.clear()
        prices.clear()
        self.assertEqual((kept.parts, kept.prices), ([(1, (1,))], [(1, 1)]))

    def test_methods_stand_in_the_class(self):
        self.assertIn("plan", Making.__dict__)


class Refusals(unittest.TestCase):
    def test_fields(self):
        wide = Blend.of_run(Run(0, 1, BIG))
        for fields in (0, -1, -BIG):
            self.assertEqual(refused(make, Blend.point(1), fields), ("BadNumber", "fields", fields))
            self.assertEqual(refused(make, wide, fields), ("BadNumber", "fields", fields))
        self.assertEqual(make(Blend.point(5), 8).share, 1)
        for fields in (9, 10, BIG):
            self.assertEqual(refused(make, Blend.point(1), fields), ("TooMany", "fields", 8))
            self.assertEqual(refused(make, wide + 1, fields), ("TooMany", "fields", 8))

    def test_a_sum_that_is_not_whole(self):
        half = Blend.of_weights([(0, 1), (1, 1)])
        for fields in (1, 3, 5, 7):
            self.assertEqual(refused(make, half, fields), ("Mismatch",))
            # Ahead of too many forces, too many strengths and too many rows.
            self.assertEqual(refused(make, half + 100, fields), ("Mismatch",))
            self.assertEqual(refused(make, Blend.of_run(Run(0, 1, 14)), fields), ("Mismatch",))
            self.assertEqual(refused(make, Blend.of_run(Run(0, 1, BIG)), fields), ("Mismatch",))
        self.assertEqual(make(half, 2).share, 1)
        self.assertEqual(refused(make, half, 9), ("TooMany", "fields", 8))

    def test_too_many_forces(self):
        self.assertEqual(make(Blend.point(20), 2).share, 1)
        self.assertEqual(make(Blend.of_weights([(20, 1), (21, 1), (19, 1)]), 2).share, 1)
        self.assertEqual(refused(make, Blend.of_weights([(20, 1), (21, 1)]), 2), ("TooMany", "forces", 40))
        self.assertEqual(refused(make, Blend.point(41), 1), ("TooMany", "forces", 40))
        # Ahead of too many strengths, however many they are.
        self.assertEqual(refused(make, Blend.of_run(Run(14, 1, 13)), 4), ("TooMany", "forces", 40))
        for blend in (Blend.of_run(Run(0, 1, BIG + 1)), Blend.of_run(Run(BIG, 4, BIG)), Blend.point(BIG)):
            for fields in (2, 8):
                self.assertEqual(refused(make, blend, fields), ("TooMany", "forces", 40))

    def test_too_many_strengths(self):
        twelve = Blend.of_weights([(k, 1) for k in range(1, 13)] + [(0, 0)])
        self.assertEqual(refused(make, twelve, 2), None)
        self.assertEqual(len(make(twelve, 2).prices), 12)
        thirteen = Blend.of_weights([(k, 1) for k in range(13)])
        self.assertEqual(refused(make, thirteen, 1), ("TooMany", "strengths", 12))
        self.assertEqual(refused(make, Blend.of_run(Run(0, 1, 13)), 1), ("TooMany", "strengths", 12))
        # Ahead of too many rows.
        self.assertEqual(refused(make, Blend.of_run(Run(0, 1, 13)), 6), ("TooMany", "strengths", 12))
        halves = [(Ratio(1, 2), Run(0, 1, 7)), (Ratio(1, 2), Run(7, 1, 6))]
        self.assertEqual(refused(make, Blend(halves), 4), ("TooMany", "strengths", 12))
        alike = [(Ratio(1, 2), Run(0, 1, 9)), (Ratio(1, 2), Run(3, 1, 9))]
        self.assertEqual(len(make(Blend(alike), 2).prices), 12)

    def test_runs_that_are_too_long_to_list(self):
        small = Ratio(1, BIG)
        for run in (Run(0, 1, 2 * BIG + 1), Run(0, 4, BIG // 2 + 1), Run(BIG - 12, 2, 13)):
            blend = Blend([(small, run), (1 - small, Run.point(0))])
            self.assertLessEqual(2 * blend.mean, 40)
            self.assertEqual(refused(make, blend, 2), ("TooMany", "strengths", 12))

    def test_too_many_rows(self):
        tried = {12: 0, 13: 0}
        for top, fields in product(range(1, 12), range(1, 9)):
            blend = Blend.of_run(Run.between(0, top))
            forces = fields * blend.mean
            if forces.under == 1 and forces <= 40:
                rows = len(walked_rows(blend, fields))
                self.assertEqual(refused(make, blend, fields), None if rows <= 12 else ("TooMany", "spreads", 12))
                if rows in tried:
                    tried[rows] += 1
        self.assertGreater(min(tried.values()), 1)
        for weights, fields, rows in (((1, 1, 0, 1, 2, 1), 6, 12), ((1, 1, 0, 1, 1, 2), 6, 13)):
            blend = Blend.of_weights(list(enumerate(weights)))
            self.assertEqual(len(walked_rows(blend, fields)), rows)
            self.assertEqual(refused(make, blend, fields), None if rows == 12 else ("TooMany", "spreads", 12))
        # As many strengths as are allowed, with many thousands of rows.
        self.assertEqual(refused(make, Blend.of_run(Run(0, 1, 11)), 8), ("TooMany", "spreads", 12))
        self.assertEqual(refused(make, Blend.of_weights([(k, 1) for k in range(12)] + [(4, 12)]), 8), ("TooMany", "spreads", 12))


class Bridges(unittest.TestCase):
    def check(self, fields, total_one, total_two, ties):
        found = bridge(fields, total_one, total_two, ties=ties)
        self.assertIsInstance(found, Bridge)
        verdict = solve(Ratio(total_one, fields), Ratio(total_two, fields), ties=ties)
        self.assertEqual(texts_of_verdict(found.verdict), texts_of_verdict(verdict))
        self.assertEqual(found.verdict.ties, ties)
        for made, blend in ((found.making_one, verdict.one), (found.making_two, verdict.two)):
            self.assertIsInstance(made, Making)
            expected = make(blend, fields)
            self.assertEqual((made.fields, made.share, made.prices), (fields, expected.share, expected.prices))
        for bound, made in ((found.low, found.making_one), (found.high, found.making_two)):
            if made.share == 1:
                self.assertIsInstance(bound, Ratio)
                self.assertEqual(bound, fields * verdict.worth)
            else:
                self.assertIsNone(bound)
        return found

    def test_the_true_game_lies_between(self):
        ends = {}
        for fields, one, two, ties in product(range(1, 9), range(9), range(9), TIES):
            if refused(bridge, fields, one, two, ties=ties) is not None:
                continue
            found = self.check(fields, one, two, ties)
            end = (found.low is not None, found.high is not None)
            ends[end] = ends.get(end, 0) + 1
            ground = Ground.plain(fields)
            if ground.count_spreads(one) <= 12 and ground.count_spreads(two) <= 12 and one + two < 9:
                worth = true_game(ground, one, two, ties=ties).worth
                self.assertTrue(found.low is None or found.low <= worth)
                self.assertTrue(found.high is None or worth <= found.high)
        self.assertEqual(len(ends), 4)
        self.assertGreater(min(ends.values()), 5)

    def test_a_known_bridge(self):
        found = self.check(2, 2, 2, 0)
        self.assertEqual((found.low, found.high), (0, 0))
        found = self.check(2, 4, 0, 0)
        self.assertEqual((found.low, found.high), (2, 2))
        # The first side's lot has only odd strengths, and no three of them add up to 6.
        found = self.check(3, 6, 0, 0)
        self.assertEqual((found.low, found.high), (None, 3))

    def test_ties_left_out_pay_nothing(self):
        self.assertEqual(bridge(1, 0, 0).low, 0)
        self.assertEqual([bridge(1, 0, 0, ties=ties).low for ties in TIES], [-1, 0, 1])
        self.assertRaises(TypeError, bridge, 1, 0, 0, 0)

    def test_refusals_in_their_order(self):
        self.assertEqual(refused(bridge, 0, -1, -1, ties=2), ("BadNumber", "ties", 2))
        for fields in (0, -1, -BIG):
            self.assertEqual(refused(bridge, fields, -1, -1), ("BadNumber", "fields", fields))
        for wrong in (-1, -BIG):
            self.assertEqual(refused(bridge, 9, wrong, -2), ("BadNumber", "total_one", wrong))
            self.assertEqual(refused(bridge, 9, 41, wrong), ("BadNumber", "total_two", wrong))
        self.assertEqual(refused(bridge, 9, 1, 1), ("TooMany", "fields", 8))
        self.assertEqual(refused(bridge, BIG, 10 * BIG, 1), ("TooMany", "fields", 8))

    def test_refusals_of_one_ahead_of_those_of_two(self):
        seen = set()
        for fields, one, two, ties in product((1, 2, 3, 8), (0, 1, 5, 9, 14, 40, 41, BIG), (0, 2, 6, 13, 40, 41, BIG), TIES):
            verdict = solve(Ratio(one, fields), Ratio(two, fields), ties=ties)
            first, second = refused(make, verdict.one, fields), refused(make, verdict.two, fields)
            self.assertEqual(refused(bridge, fields, one, two, ties=ties), first or second)
            if first != second:
                seen.add((first, second))
        both = [pair for pair in seen if None not in pair]
        self.assertGreater(len(both), 2)
        self.assertTrue(any(first is None for first, _ in seen))
        self.assertTrue(any(second is None for _, second in seen))


if __name__ == "__main__":
    unittest.main()
