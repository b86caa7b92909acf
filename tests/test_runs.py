import itertools
import random
import unittest
from math import gcd

from fieldlots.errors import BadNumber, NoPlace
from fieldlots.ratio import Ratio
from fieldlots.runs import Run, floor_sum, pairs_above, pairs_alike, run_gain
from tests.helpers import BIG, TIES, duel_of, fraction, listed, ratio, small_runs


def shown(run):
    return run.first, run.step, run.count


class Refusing(unittest.TestCase):
    def assert_bad(self, name, value, call, *rest):
        with self.assertRaises(BadNumber) as caught:
            call(*rest)
        self.assertEqual((caught.exception.name, caught.exception.value), (name, value))

    def test_in_their_order(self):
        self.assert_bad("first", -1, Run, -1, 0, 0)
        self.assert_bad("first", -1, Run, -1, 1, 1)
        self.assert_bad("step", 0, Run, 0, 0, 0)
        self.assert_bad("step", 5, Run, 0, 5, -3)
        self.assert_bad("step", -1, Run, 0, -1, 2)
        self.assert_bad("step", 5, Run, 0, 5, 1)
        self.assert_bad("count", 0, Run, 0, 4, 0)
        self.assert_bad("count", -BIG, Run, 0, 1, -BIG)

    def test_of_the_class_methods(self):
        self.assert_bad("first", -2, Run.point, -2)
        self.assert_bad("count", 0, Run.odd, 0)
        self.assert_bad("count", -4, Run.odd, -4)
        self.assert_bad("count", 0, Run.even, -1)
        self.assert_bad("count", -2, Run.even, -3)
        self.assert_bad("first", -1, Run.between, -1, -5)
        self.assert_bad("count", 0, Run.between, 3, 2)
        self.assert_bad("count", -4, Run.between, 7, 2)

    def test_of_plus(self):
        self.assert_bad("first", -1, lambda: Run.odd(3) + -2)
        self.assert_bad("first", -BIG, lambda: Run.point(0) + -BIG)
        self.assertRaises(TypeError, lambda: Run.odd(3) + "1")
        self.assertRaises(TypeError, lambda: Run.odd(3) + Run.odd(3))


class Making(unittest.TestCase):
    def test_attributes(self):
        self.assertEqual(shown(Run(3, 4, 5)), (3, 4, 5))
        self.assertEqual(shown(Run(0, 1, BIG)), (0, 1, BIG))

    def test_one_strength_has_step_1(self):
        for step in (1, 2, 3, 4):
            self.assertEqual(shown(Run(7, step, 1)), (7, 1, 1))
            self.assertEqual(shown(Run(7, step, 2)), (7, step, 2))

    def test_class_methods(self):
        self.assertEqual(shown(Run.point(6)), (6, 1, 1))
        self.assertEqual(shown(Run.odd(4)), (1, 2, 4))
        self.assertEqual(shown(Run.odd(1)), (1, 1, 1))
        self.assertEqual(shown(Run.even(4)), (0, 2, 5))
        self.assertEqual(shown(Run.even(0)), (0, 1, 1))
        self.assertEqual(shown(Run.between(2, 5)), (2, 1, 4))
        self.assertEqual(shown(Run.between(5, 5)), (5, 1, 1))

    def test_plus(self):
        self.assertEqual(shown(Run(3, 4, 5) + 6), (9, 4, 5))
        self.assertEqual(shown(Run(3, 4, 5) + -3), (0, 4, 5))
        self.assertEqual(shown(Run(3, 4, 5) + 0), (3, 4, 5))

    def test_equality(self):
        self.assertTrue(Run(3, 2, 1) == Run.point(3))
        self.assertTrue(Run(1, 2, 4) == Run.odd(4))
        for other in (Run(2, 2, 4), Run(1, 3, 4), Run(1, 2, 5), (1, 2, 4), "1:2:4", None):
            self.assertIs(Run(1, 2, 4) == other, False)
            self.assertIs(Run(1, 2, 4) != other, True)


class Reading(unittest.TestCase):
    def test_by_index(self):
        run = Run(3, 4, 5)
        self.assertEqual([run[i] for i in range(5)], [3, 7, 11, 15, 19])
        self.assertEqual(Run(1, 2, BIG)[BIG - 1], 2 * BIG - 1)
        for i in (-1, 5, BIG, -BIG):
            self.assertRaises(NoPlace, lambda: run[i])

    def test_not_iterated_over(self):
        self.assertRaises(TypeError, iter, Run.odd(3))
        self.assertRaises(TypeError, lambda: list(Run.odd(3)))

    def test_last_and_mean(self):
        for run in small_runs():
            self.assertEqual(run.last, listed(run)[-1])
            self.assertIsInstance(run.last, int)
            self.assertIsInstance(run.mean, Ratio)
            self.assertEqual(run.mean, Ratio(sum(listed(run)), run.count))
        self.assertEqual(Run.odd(BIG).last, 2 * BIG - 1)
        self.assertEqual(Run.odd(BIG).mean, BIG)
        self.assertEqual(Run.between(0, BIG + 1).mean, Ratio(BIG + 1, 2))

    def test_strengths_anew_at_each_call(self):
        for run in small_runs():
            self.assertEqual(list(run.strengths()), listed(run))
            self.assertEqual(list(run.strengths()), listed(run))
        huge = Run(BIG, 4, BIG)
        for _ in range(2):
            self.assertEqual(list(itertools.islice(huge.strengths(), 3)), [BIG, BIG + 4, BIG + 8])

    def test_parted(self):
        run = Run(3, 4, 5)
        for n in range(1, 5):
            head, tail = run.parted(n)
            self.assertEqual(listed(head), listed(run)[:n])
            self.assertEqual(listed(tail), listed(run)[n:])
        self.assertEqual([shown(part) for part in run.parted(1)], [(3, 1, 1), (7, 4, 4)])
        self.assertEqual([shown(part) for part in run.parted(4)], [(3, 4, 4), (19, 1, 1)])
        self.assertIsInstance(run.parted(2), tuple)
        head, tail = Run(0, 3, BIG).parted(BIG - 1)
        self.assertEqual([shown(head), shown(tail)], [(0, 3, BIG - 1), (3 * BIG - 3, 1, 1)])
        for n in (0, 5, 6, -1):
            self.assertRaises(NoPlace, run.parted, n)
        for n in (0, 1, 2):
            self.assertRaises(NoPlace, Run.point(3).parted, n)


class Counting(unittest.TestCase):
    def test_against_a_walk(self):
        for run in small_runs():
            strengths = listed(run)
            for k in range(-3, run.last + 5):
                self.assertEqual(run.below(k), len([x for x in strengths if x < k]))
                self.assertEqual(run.above(k), len([x for x in strengths if x > k]))
                self.assertIs(k in run, k in strengths)
                self.assertIsInstance(run.chance(k), Ratio)
                self.assertEqual(run.chance(k), Ratio(strengths.count(k), run.count))
                for ties in TIES:
                    gain = run.gain(k, ties=ties)
                    self.assertIsInstance(gain, Ratio)
                    self.assertEqual(gain, Ratio(sum(duel_of(x, k, ties) for x in strengths), run.count))

    def test_a_huge_run(self):
        run = Run(5, 3, BIG)
        self.assertEqual((run.below(5), run.above(5)), (0, BIG - 1))
        self.assertEqual((run.below(6), run.above(6)), (1, BIG - 1))
        self.assertEqual((run.below(run.last), run.above(run.last)), (BIG - 1, 0))
        self.assertEqual((run.below(run.last + 1), run.above(run.last - 1)), (BIG, 1))
        self.assertEqual((run.below(-BIG), run.above(-BIG)), (0, BIG))
        self.assertIn(run.last, run)
        self.assertNotIn(run.last + 3, run)
        self.assertNotIn(run.last - 1, run)
        self.assertNotIn(2, run)
        self.assertEqual(run.chance(8), Ratio(1, BIG))
        self.assertEqual(run.gain(8, ties=1), Ratio(BIG - 2, BIG))
        self.assertEqual(run.gain(8), Ratio(BIG - 3, BIG))
        self.assertEqual(run.gain(8, ties=-1), Ratio(BIG - 4, BIG))


class FloorSums(unittest.TestCase):
    def assert_bad(self, name, value, *rest):
        with self.assertRaises(BadNumber) as caught:
            floor_sum(*rest)
        self.assertEqual((caught.exception.name, caught.exception.value), (name, value))

    def test_small(self):
        for many in (0, 1, 2, 5, 9):
            for under in (1, 2, 3, 7, 10):
                for step in (0, 1, 3, 7, 8, 23):
                    for start in (0, 1, 6, 7, 30):
                        got = floor_sum(many, under, step, start)
                        self.assertIs(type(got), int)
                        self.assertEqual(got, sum((step * i + start) // under for i in range(many)))

    def test_random(self):
        chance = random.Random(4)
        for _ in range(300):
            many = chance.randrange(60)
            under, step, start = chance.randrange(1, 500), chance.randrange(1500), chance.randrange(1500)
            self.assertEqual(floor_sum(many, under, step, start),
                             sum((step * i + start) // under for i in range(many)))

    def test_thirty_figures(self):
        chance = random.Random(5)
        for _ in range(100):
            under, step, start = [chance.randrange(BIG // 10, BIG) for _ in range(3)]
            few = chance.randrange(1, 40)
            self.assertEqual(floor_sum(few, under, step, start), sum((step * i + start) // under for i in range(few)))
            # One full turn: the terms pair up from both ends.
            turn = ((step - 1) * (under - 1) + gcd(step, under) - 1) // 2
            self.assertEqual(floor_sum(under, under, step, 0), turn)
            # Two pieces, one behind the other.
            many, cut = chance.randrange(BIG // 2, BIG), chance.randrange(1, BIG // 2)
            pieces = floor_sum(cut, under, step, start) + floor_sum(many - cut, under, step, start + step * cut)
            self.assertEqual(floor_sum(many, under, step, start), pieces)
        self.assertEqual(floor_sum(BIG, 1, 1, 0), BIG * (BIG - 1) // 2)
        self.assertEqual(floor_sum(BIG, 2, 1, 1), (BIG // 2) ** 2)

    def test_long_ways(self):
        a, b = 1, 1
        for _ in range(4000):
            a, b = b, a + b
        # Neighbours of Fibonacci's row have no common divisor, so the terms pair up to a - 1 less.
        self.assertEqual(floor_sum(b, b, a, 0), (a - 1) * (b - 1) // 2)

    def test_refusals_in_their_order(self):
        self.assert_bad("many", -1, -1, 0, -1, -1)
        self.assert_bad("under", 0, 0, 0, -1, -1)
        self.assert_bad("under", -4, 3, -4, 1, 1)
        self.assert_bad("step", -1, 0, 1, -1, -1)
        self.assert_bad("start", -1, 0, 1, 0, -1)
        self.assert_bad("start", -BIG, 5, 1, 0, -BIG)


class Pairs(unittest.TestCase):
    def test_against_a_walk(self):
        runs = small_runs(firsts=(0, 1, 6), counts=(1, 2, 5))
        for one, other in itertools.product(runs, runs):
            pairs = [(x, y) for x in listed(one) for y in listed(other)]
            self.assertEqual(pairs_above(one, other), sum(x > y for x, y in pairs))
            self.assertEqual(pairs_alike(one, other), sum(x == y for x, y in pairs))
            for ties in TIES:
                got = run_gain(one, other, ties=ties)
                self.assertIsInstance(got, Ratio)
                self.assertEqual(got, Ratio(sum(duel_of(x, y, ties) for x, y in pairs), len(pairs)))

    def test_far_apart(self):
        low, high = Run(0, 3, 4), Run(50, 2, 3)
        self.assertEqual((pairs_above(low, high), pairs_above(high, low)), (0, 12))
        self.assertEqual(pairs_alike(low, high), 0)
        self.assertEqual(run_gain(high, low), 1)
        self.assertEqual(run_gain(low, high, ties=1), -1)

    def test_huge_runs(self):
        one, other = Run.between(1, BIG), Run.between(0, BIG - 1)
        self.assertEqual(pairs_above(one, other), BIG * (BIG + 1) // 2)
        self.assertEqual(pairs_above(other, one), (BIG - 1) * (BIG - 2) // 2)
        self.assertEqual(pairs_alike(one, other), BIG - 1)
        odd, even = Run.odd(BIG), Run.even(BIG)
        self.assertEqual(pairs_alike(odd, even), 0)
        self.assertEqual(pairs_above(odd, even), BIG * (BIG + 1) // 2)
        self.assertEqual(run_gain(odd, even), 0)
        self.assertEqual(pairs_alike(Run(0, 3, BIG), Run(0, 4, BIG)), (BIG * 3 - 3) // 12 + 1)
        self.assertEqual(pairs_alike(Run(1, 4, BIG), Run(0, 4, BIG)), 0)
        self.assertEqual(run_gain(Run.odd(BIG), Run.odd(BIG), ties=1), Ratio(1, BIG))
        self.assertEqual(run_gain(Run.odd(BIG), Run.odd(BIG), ties=-1), Ratio(-1, BIG))

    def test_huge_runs_against_sums_of_their_pieces(self):
        one, other = Run(7, 3, 10 ** 30 + 5), Run(10 ** 29, 4, 10 ** 29 + 3)
        head, tail = one.parted(10 ** 29 + 1)
        front, back = other.parted(10 ** 28 + 9)
        for count in (pairs_above, pairs_alike):
            pieces = sum(count(a, b) for a in (head, tail) for b in (front, back))
            self.assertEqual(count(one, other), pieces)
        whole = fraction(run_gain(one, other, ties=1)) * one.count * other.count
        self.assertEqual(ratio(whole), pairs_above(one, other) - pairs_above(other, one) + pairs_alike(one, other))


if __name__ == "__main__":
    unittest.main()
