import itertools
import unittest

from fieldlots.blends import Blend, meet
from fieldlots.errors import BadNumber, BadShares, TooMany
from fieldlots.ratio import Ratio
from fieldlots.runs import Run
from tests.helpers import BIG, TIES, duel_of, fraction, listed, ratio, small_blends, walked_chance, walked_gain

HALF = Ratio(1, 2)
THIRD = Ratio(1, 3)


class Making(unittest.TestCase):
    def test_shares_become_ratios(self):
        blend = Blend([(1, Run.odd(3))])
        self.assertEqual(blend.parts, [(Ratio(1), Run.odd(3))])
        self.assertIsInstance(blend.parts, list)
        self.assertIsInstance(blend.parts[0], tuple)
        self.assertIsInstance(blend.parts[0][0], Ratio)

    def test_parts_without_a_share_are_left_out(self):
        blend = Blend([(0, Run.point(5)), (HALF, Run.point(2)), (Ratio(0), Run.odd(4)), (HALF, Run.point(1))])
        self.assertEqual(blend.parts, [(HALF, Run.point(2)), (HALF, Run.point(1))])

    def test_equal_runs_are_put_together_at_the_first_with_a_share(self):
        quarter = Ratio(1, 4)
        blend = Blend([(0, Run.point(5)), (quarter, Run.odd(3)), (quarter, Run.point(5)), (quarter, Run.point(2)),
                       (Ratio(1, 8), Run(5, 4, 1)), (Ratio(1, 8), Run(1, 2, 3))])
        self.assertEqual(blend.parts, [(Ratio(3, 8), Run.odd(3)), (Ratio(3, 8), Run.point(5)), (quarter, Run.point(2))])

    def test_like_runs_are_kept_apart(self):
        runs = [Run(1, 2, 3), Run(1, 2, 4), Run(1, 3, 3), Run(2, 2, 3)]
        blend = Blend([(Ratio(1, 4), run) for run in runs])
        self.assertEqual([run for _, run in blend.parts], runs)

    def test_64_and_65_pairs(self):
        pairs = [(Ratio(1, 64), Run.point(k)) for k in range(64)]
        self.assertEqual(len(Blend(pairs)), 64)
        for more in ([(0, Run.point(1))], [(-1, Run.point(1))]):
            with self.assertRaises(TooMany) as caught:
                Blend(pairs + more)
            self.assertEqual((caught.exception.name, caught.exception.most), ("parts", 64))
        with self.assertRaises(TooMany):
            Blend([(Ratio(1, 65), Run.point(3))] * 65)
        self.assertEqual(Blend([(Ratio(1, 64), Run.point(3))] * 64), Blend.point(3))

    def test_bad_shares(self):
        two = Run.point(2)
        for parts in ([], [(Ratio(9, 10), two)], [(Ratio(11, 10), two)], [(0, two)], [(-1, two), (2, Run.point(1))],
                      [(2, two), (-1, two)], [(HALF, two), (THIRD, Run.odd(2))], [(-1, two)], [(2, two)]):
            self.assertRaises(BadShares, Blend, parts)

    def test_class_methods(self):
        self.assertEqual(Blend.point(4).parts, [(1, Run.point(4))])
        self.assertEqual(Blend.of_run(Run.odd(4)).parts, [(1, Run.odd(4))])
        with self.assertRaises(BadNumber) as caught:
            Blend.point(-1)
        self.assertEqual((caught.exception.name, caught.exception.value), ("first", -1))

    def test_of_weights(self):
        blend = Blend.of_weights([(4, 3), (0, 2), (9, 0), (4, 1)])
        self.assertEqual(blend.parts, [(Ratio(2, 3), Run.point(4)), (THIRD, Run.point(0))])
        for weights in ([], [(1, 0)], [(1, 2), (3, -2)], [(1, -1)], [(-1, 0)]):
            self.assertRaises(BadShares, Blend.of_weights, weights)
        self.assertRaises(BadShares, Blend.of_weights, [(1, 3), (2, -1)])
        self.assertEqual(Blend.of_weights([(1, BIG), (2, BIG)])[2], HALF)
        self.assertEqual(Blend.of_weights([(7, 1)]), Blend.point(7))
        self.assertEqual(Blend.of_weights([(7, 0), (6, 1)]), Blend.point(6))

    def test_of_weights_checks_in_order(self):
        with self.assertRaises(BadNumber) as caught:
            Blend.of_weights([(1, 3), (-7, -1)])
        self.assertEqual((caught.exception.name, caught.exception.value), ("first", -7))
        with self.assertRaises(TooMany):
            Blend.of_weights([(k, 1) for k in range(65)])
        self.assertRaises(BadShares, Blend.of_weights, [(k, 0) for k in range(65)])


class Operators(unittest.TestCase):
    def test_equality(self):
        blend = Blend([(HALF, Run.point(1)), (HALF, Run.odd(3))])
        self.assertTrue(blend == Blend([(Ratio(2, 4), Run.point(1)), (0, Run.point(7)), (HALF, Run.odd(3))]))
        for other in (Blend([(HALF, Run.odd(3)), (HALF, Run.point(1))]), Blend.point(1),
                      Blend([(THIRD, Run.point(1)), (1 - THIRD, Run.odd(3))]),
                      Blend([(HALF, Run.point(1)), (HALF, Run.odd(4))]), blend.parts, None, "blend"):
            self.assertIs(blend == other, False)
            self.assertIs(blend != other, True)

    def test_iteration_and_len(self):
        blend = Blend([(THIRD, Run.point(1)), (1 - THIRD, Run.odd(3))])
        self.assertEqual(list(blend), [(THIRD, Run.point(1)), (Ratio(2, 3), Run.odd(3))])
        self.assertEqual([type(share) for share, _ in blend], [Ratio, Ratio])
        self.assertEqual(len(blend), 2)
        self.assertEqual(len(Blend([(0, Run.point(1)), (1, Run.odd(3))])), 1)

    def test_chances(self):
        for blend in small_blends():
            for k in range(-2, blend.greatest + 3):
                self.assertIsInstance(blend[k], Ratio)
                self.assertEqual(blend[k], ratio(walked_chance(blend, k)))
                self.assertIs(k in blend, walked_chance(blend, k) > 0)
        huge = Blend([(HALF, Run(0, 3, BIG)), (HALF, Run(0, 4, BIG))])
        self.assertEqual([huge[k] for k in (0, 1, 3, 4, 12)],
                         [Ratio(1, BIG), 0, Ratio(1, 2 * BIG), Ratio(1, 2 * BIG), Ratio(1, BIG)])

    def test_plus(self):
        blend = Blend([(HALF, Run.point(1)), (HALF, Run.odd(3))])
        self.assertEqual((blend + 3).parts, [(HALF, Run.point(4)), (HALF, Run(4, 2, 3))])
        self.assertEqual((blend + -1).parts, [(HALF, Run.point(0)), (HALF, Run(0, 2, 3))])
        with self.assertRaises(BadNumber) as caught:
            Blend([(HALF, Run.point(5)), (HALF, Run.odd(3))]) + -3
        self.assertEqual((caught.exception.name, caught.exception.value), ("first", -2))
        self.assertRaises(TypeError, lambda: blend + "1")


class Reading(unittest.TestCase):
    def test_mean_and_greatest(self):
        for blend in small_blends():
            reach = range(60)
            mean = sum(walked_chance(blend, k) * k for k in reach)
            self.assertIsInstance(blend.mean, Ratio)
            self.assertEqual(blend.mean, ratio(mean))
            self.assertEqual(blend.greatest, max(k for k in reach if walked_chance(blend, k)))
            self.assertIs(type(blend.greatest), int)
        self.assertEqual(Blend([(HALF, Run.point(3)), (HALF, Run.between(0, BIG))]).mean, Ratio(BIG + 6, 4))
        self.assertEqual(Blend([(HALF, Run.between(0, BIG)), (HALF, Run.point(3))]).greatest, BIG)

    def test_gain(self):
        for blend in small_blends():
            for ties in TIES:
                for k in range(-2, blend.greatest + 3):
                    gain = blend.gain(k, ties=ties)
                    self.assertIsInstance(gain, Ratio)
                    self.assertEqual(gain, ratio(walked_gain(blend, k, ties)))

    def test_meet(self):
        for one, other in itertools.product(small_blends(), small_blends()):
            for ties in TIES:
                total = 0
                for (share, run), (part, facing) in itertools.product(one.parts, other.parts):
                    duels = [duel_of(x, y, ties) for x in listed(run) for y in listed(facing)]
                    total += fraction(share) * fraction(part) * sum(duels) / len(duels)
                got = meet(one, other, ties=ties)
                self.assertIsInstance(got, Ratio)
                self.assertEqual(got, ratio(total))

    def test_meet_of_huge_runs(self):
        odd = Blend.of_run(Run.odd(BIG))
        even = Blend.of_run(Run.even(BIG))
        self.assertEqual(meet(odd, even), 0)
        self.assertEqual(meet(odd, even + 1, ties=1), Ratio(-BIG, BIG * (BIG + 1)) + Ratio(1, BIG + 1))


class Mixing(unittest.TestCase):
    def test_own_parts_first(self):
        one = Blend([(HALF, Run.point(1)), (HALF, Run.odd(3))])
        other = Blend([(THIRD, Run.odd(3)), (1 - THIRD, Run.point(0))])
        mixed = one.mixed(Ratio(1, 4), other)
        self.assertEqual(mixed.parts, [(Ratio(1, 8), Run.point(1)), (Ratio(3, 8), Run.odd(3)), (HALF, Run.point(0))])

    def test_whole_shares(self):
        one, other = Blend.point(1), Blend.of_run(Run.odd(3))
        self.assertEqual(one.mixed(1, other), one)
        self.assertEqual(one.mixed(0, other), other)
        self.assertEqual(one.mixed(Ratio(1), other), one)

    def test_refusals(self):
        one, other = Blend.point(1), Blend.point(2)
        for share in (2, -1, Ratio(-1, 9), Ratio(10, 9)):
            self.assertRaises(BadShares, one.mixed, share, other)
        many = Blend([(Ratio(1, 33), Run.point(k)) for k in range(33)])
        with self.assertRaises(TooMany) as caught:
            many.mixed(2, many)
        self.assertEqual((caught.exception.name, caught.exception.most), ("parts", 64))
        self.assertRaises(TooMany, many.mixed, 1, many)


if __name__ == "__main__":
    unittest.main()
