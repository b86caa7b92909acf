import itertools
import unittest

from fieldlots.blends import Blend
from fieldlots.breach import first_breach, first_difference
from fieldlots.lines import Line
from fieldlots.ratio import Ratio
from fieldlots.runs import Run
from tests.helpers import BIG, TIES, fraction, same_chances, small_blends, walked_chance, walked_gain

HALF = Ratio(1, 2)


def walked_breach(blend, line, ties, reach):
    start, slope = fraction(line.start), fraction(line.slope)
    for y in range(reach):
        if walked_gain(blend, y, ties) < start + slope * y:
            return y
    return None


class FirstBreach(unittest.TestCase):
    def assert_walked(self, blend, line, ties, reach=150):
        found = first_breach(blend, line, ties=ties)
        walked = walked_breach(blend, line, ties, reach)
        if found is not None and found >= reach:
            self.assertIsNone(walked)
            self.assertLess(blend.gain(found, ties=ties), line(found))
            self.assertGreaterEqual(blend.gain(found - 1, ties=ties), line(found - 1))
        else:
            self.assertEqual(found, walked, (line.start.top, line.slope.top, ties))

    def test_lines_of_each_slope(self):
        starts = [Ratio(top, 6) for top in (-13, -7, -6, -5, -1, 0, 2, 5, 6, 7)]
        slopes = [Ratio(-1, 2), Ratio(-1, 7), Ratio(-1, 40), Ratio(0), Ratio(1, 50), Ratio(1, 3), Ratio(2)]
        for blend, ties, start, slope in itertools.product(small_blends(), TIES, starts, slopes):
            self.assert_walked(blend, Line(start, slope), ties, 40 if slope <= 0 else 150)

    def test_lines_through_two_points_of_the_gain(self):
        for blend, ties in itertools.product(small_blends(), TIES):
            for low, high in itertools.combinations(range(0, blend.greatest + 2, 2), 2):
                gain = blend.gain(low, ties=ties)
                slope = (blend.gain(high, ties=ties) - gain).over(high - low)
                line = Line(gain - slope * low, slope)
                self.assert_walked(blend, line, ties, 40)
                self.assert_walked(blend, line + Line(Ratio(-1, 1000), 0), ties, 40)

    def test_the_places_of_a_breach(self):
        run = Blend.of_run(Run.between(3, 8))
        self.assertEqual(first_breach(run, Line(2, 0)), 0)
        self.assertEqual(first_breach(run, Line(1, 0)), 3)
        self.assertEqual(first_breach(run, Line(0, 0)), 6)
        self.assertEqual(first_breach(run, Line(Ratio(-4, 6), 0)), 8)
        self.assertEqual(first_breach(run, Line(Ratio(-5, 6), 0)), 9)
        self.assertIsNone(first_breach(run, Line(-1, 0)))
        self.assertEqual(first_breach(run, Line(-2, Ratio(1, BIG))), BIG + 1)
        self.assertEqual(first_breach(run, Line(-2, Ratio(1, 100))), 101)
        self.assertIsNone(first_breach(run, Line(-2, 0)))
        self.assertIsNone(first_breach(run, Line(1, -1)))
        self.assertIsInstance(first_breach(run, Line(0, 0)), int)

    def test_a_line_that_is_met_is_no_breach(self):
        for ties, first in ((1, 3), (0, 2), (-1, 2)):
            self.assertEqual(first_breach(Blend.point(2), Line(1, 0), ties=ties), first)
        self.assertEqual(first_breach(Blend.point(2), Line(0, 0)), 3)
        self.assertIsNone(first_breach(Blend.point(2), Line(1, Ratio(-2, 3))))
        self.assertEqual(first_breach(Blend.point(2), Line(1, Ratio(-2, 3)), ties=-1), 2)

    def test_the_breach_of_the_desk_example(self):
        blend = Blend([(Ratio(1, 3), Run(0, 1, 1)), (Ratio(2, 3), Run(1, 2, 4))])
        self.assertEqual(first_breach(blend, Line(0, Ratio(-1, 9))), 7)

    def test_a_huge_run_level_and_rising(self):
        run = Blend.of_run(Run.odd(BIG))
        # Against 2 j the gain is 1 - 2 j / BIG.
        self.assertEqual(first_breach(run, Line(0, 0)), BIG + 1)
        self.assertEqual(first_breach(run, Line(Ratio(-1, 2), 0)), 3 * BIG // 2 + 1)
        self.assertEqual(first_breach(run, Line(-1, Ratio(1, 2 * BIG))), 4 * BIG // 3 + 1)
        self.assertEqual(first_breach(run, Line(-1, 0)), None)

    def test_a_huge_run_falling(self):
        run = Blend.of_run(Run.odd(BIG))
        fall = Ratio(-1, BIG)
        self.assertIsNone(first_breach(run, Line(1, fall)))
        self.assertEqual(first_breach(run, Line(1, fall), ties=-1), 1)
        self.assertIsNone(first_breach(run, Line(1, fall), ties=1))
        self.assertIsNone(first_breach(run, Line(1 + fall, fall), ties=-1))
        # The line loses 1 / BIG more than the gain in the upper half only.
        line = Line(1, fall) + Line(Ratio(-1, 2), Ratio(1, 2 * BIG))
        self.assertEqual(first_breach(run, line), BIG + 1)
        self.assertEqual(first_breach(run + BIG, Line(1, 0)), BIG + 1)

    def test_huge_runs_of_unlike_steps_and_great_firsts(self):
        first = 7 * 10 ** 29 + 123456789
        parts = [(Ratio(1, 4), Run(first + step * 10 ** 28, step, BIG + step)) for step in (1, 2, 3, 4)]
        blend = Blend(parts)
        for ties in TIES:
            for start in (Ratio(9, 10), Ratio(1, 3), Ratio(0), Ratio(-1, 3), Ratio(-99, 100)):
                for slope in (Ratio(0), Ratio(1, 10 ** 31), Ratio(-1, 10 ** 31)):
                    line = Line(start, slope)
                    self.assert_near(blend, line, ties)
            low = Line(blend.gain(first, ties=ties), 0) + Line(Ratio(1, 10 ** 62), 0)
            self.assertEqual(first_breach(blend, low, ties=ties), 0)

    def assert_near(self, blend, line, ties):
        found = first_breach(blend, line, ties=ties)
        end = 5 * BIG if found is None else found
        for y in [end - back for back in range(1, 25)] + [end * part // 100 for part in range(100)]:
            self.assertGreaterEqual(blend.gain(y, ties=ties), line(y))
        if found is not None:
            self.assertLess(blend.gain(found, ties=ties), line(found))
        else:
            self.assertLess(line.slope, 0)
            self.assertLess(line(5 * BIG), -1)

    def test_a_breach_in_one_row_of_many(self):
        # Only strengths of one remainder by 12 lie below this line.
        blend = Blend([(HALF, Run(0, 3, BIG)), (HALF, Run(0, 4, BIG))])
        def line_under(k, ties):
            gain = blend.gain(k, ties=ties)
            slope = (blend.gain(k + 12, ties=ties) - gain).over(12)
            return Line(gain - slope * k + Ratio(1, 10 ** 40), slope)
        for ties in TIES:
            for k in range(12):
                line = line_under(k, ties)
                walked = [y for y in range(100) if blend.gain(y, ties=ties) < line(y)]
                self.assertEqual(first_breach(blend, line, ties=ties), walked[0])

    def test_arguments_stay(self):
        blend, line = Blend([(HALF, Run.odd(3)), (HALF, Run.point(2))]), Line(1, Ratio(-1, 3))
        parts = list(blend.parts)
        first_breach(blend, line)
        first_difference(blend, Blend.point(1))
        self.assertEqual((blend.parts, line), (parts, Line(1, Ratio(-1, 3))))


class FirstDifference(unittest.TestCase):
    def test_against_a_walk(self):
        for one, other in itertools.product(small_blends(), small_blends()):
            reach = range(60)
            walked = next((y for y in reach if walked_chance(one, y) != walked_chance(other, y)), None)
            self.assertEqual(first_difference(one, other), walked)

    def test_other_parts_with_the_same_chances(self):
        for blend in small_blends():
            other = same_chances(blend)
            self.assertIsNone(first_difference(blend, other))
            self.assertIsNone(first_difference(other, blend))
            self.assertIsNone(first_difference(blend, same_chances(other)))
        thirds = Blend.of_weights([(2, 1), (0, 1), (1, 1)])
        self.assertIsNone(first_difference(thirds, Blend.of_run(Run.between(0, 2))))

    def test_one_strength_more(self):
        for blend in small_blends():
            for k in (0, 1, 6, blend.greatest, blend.greatest + 1, BIG):
                other = same_chances(blend).mixed(Ratio(99, 100), Blend.point(k))
                found = first_difference(blend, other)
                walked = [y for y in range(60) if blend[y] != other[y]]
                self.assertEqual(found, walked[0] if walked else None)

    def test_two_strengths_that_change_places(self):
        one = Blend.of_weights([(1, 3), (4, 2), (9, 5)])
        self.assertEqual(first_difference(one, Blend.of_weights([(1, 3), (4, 5), (9, 2)])), 4)
        self.assertEqual(first_difference(one, Blend.of_weights([(1, 3), (4, 2), (8, 5)])), 8)
        self.assertEqual(first_difference(one, Blend.of_weights([(1, 3), (4, 2), (10, 5)])), 9)

    def test_huge_runs(self):
        run = Run(5, 3, BIG)
        blend = Blend.of_run(run)
        head, tail = run.parted(10 ** 29)
        cut = Blend([(Ratio(9, 10), tail), (Ratio(1, 10), head)])
        self.assertIsNone(first_difference(blend, cut))
        more = Blend([(Ratio(9, 10), tail), (Ratio(1, 10), Run(5, 3, 10 ** 29 - 1))])
        self.assertEqual(first_difference(blend, more), 5)
        self.assertEqual(first_difference(blend, Blend.of_run(Run(5, 3, BIG + 1))), 5)
        self.assertEqual(first_difference(blend, Blend.of_run(Run(5, 4, BIG))), 8)
        self.assertEqual(first_difference(blend, Blend.of_run(Run(4, 3, BIG))), 4)

    def test_huge_runs_that_differ_far_up(self):
        last = 4 * BIG
        low, high = Run(0, 4, BIG), Run(last, 2, 5)
        one = Blend([(HALF, low), (HALF, high)])
        other = Blend([(HALF, Run(last + 2, 2, 4)), (HALF, low)])
        self.assertEqual(first_difference(one, other), last)
        # Two runs of step 4 make one of step 2, up to their ends.
        pair = Blend([(HALF, Run(0, 4, BIG)), (HALF, Run(2, 4, BIG))])
        self.assertIsNone(first_difference(pair, Blend.of_run(Run(0, 2, 2 * BIG))))
        self.assertEqual(first_difference(pair, Blend([(HALF, Run(0, 4, BIG)), (HALF, Run(6, 4, BIG))])), 2)


if __name__ == "__main__":
    unittest.main()
