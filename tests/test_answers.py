import itertools
import random
import unittest
from fractions import Fraction

from fieldlots.answers import Answer, best_answer, best_over
from fieldlots.blends import Blend, meet
from fieldlots.breach import first_breach
from fieldlots.errors import BadNumber, TooMany
from fieldlots.lines import Line
from fieldlots.ratio import Ratio
from fieldlots.runs import Run
from tests.helpers import BIG, TIES, ratio, small_blends, walked_gain

HALF = Ratio(1, 2)


def least_of_pairs(blend, mean, ties):
    """The least that a lot over one or two strengths with the mean leaves, by a walk over the pairs."""
    reach = max(blend.greatest + 2, int(mean) + 2)
    gains = [walked_gain(blend, y, ties) for y in range(reach + 1)]
    found = []
    for low, high in itertools.product(range(reach + 1), repeat=2):
        if low <= mean < high:
            share = Fraction(mean - low) / (high - low)
            found.append((1 - share) * gains[low] + share * gains[high])
    return min(found)


def some_blend(chance):
    """A blend of one to four runs of unlike steps and lengths."""
    weights = [chance.randrange(1, 6) for _ in range(chance.randrange(1, 5))]
    return Blend([(Ratio(weight, sum(weights)),
                   Run(chance.randrange(9), chance.randrange(1, 5), chance.choice((1, 2, 3, 5, 8)))) for weight in weights])


class AnswerChecks(unittest.TestCase):
    def check(self, fields, total, ties, walk=30):
        answer = best_over(fields, total, ties=ties)
        self.assertIsInstance(answer, Answer)
        self.assertIsInstance(answer.worth, Ratio)
        self.assertEqual((len(answer.lots), len(answer.lines)), (len(fields), len(fields)))
        self.assertIs(answer.lot, answer.lots[0])
        self.assertIs(answer.line, answer.lines[0])
        self.check_lots(answer, fields, total, ties)
        self.check_lines(answer, fields, total, ties, walk)
        return answer

    def check_lots(self, answer, fields, total, ties):
        left = Ratio(0)
        means = Ratio(0)
        for lot, (worth, blend) in zip(answer.lots, fields):
            self.assertIsInstance(lot, Blend)
            self.assertIn(len(lot), (1, 2))
            self.assertEqual([run.count for _, run in lot], [1] * len(lot))
            means = means + lot.mean
            left = left + worth * meet(blend, lot, ties=ties)
        self.assertEqual(means, total)
        self.assertEqual(left, answer.worth)

    def check_lines(self, answer, fields, total, ties, walk):
        starts = Ratio(0)
        for line, (worth, blend) in zip(answer.lines, fields):
            self.assertIsInstance(line, Line)
            self.assertEqual(line.slope, answer.line.slope)
            self.assertIsNone(first_breach(blend, line * Ratio(1, worth), ties=ties))
            for y in range(walk):
                self.assertGreaterEqual(worth * blend.gain(y, ties=ties), line(y))
            starts = starts + line.start
        self.assertEqual(starts + answer.line.slope * total, answer.worth)


class OneField(AnswerChecks):
    def test_the_example(self):
        answer = best_answer(Blend.point(2), 1)
        self.assertEqual(str(answer.worth), "1/3")
        self.assertEqual(answer.worth, Ratio(1, 3))

    def test_against_all_pairs_of_strengths(self):
        for blend, ties in itertools.product(small_blends(), TIES):
            for mean in (0, HALF, 1, Ratio(7, 3), 5, Ratio(71, 9), 30):
                answer = best_answer(blend, mean, ties=ties)
                walked = least_of_pairs(blend, Fraction(str(mean)), ties)
                self.assertEqual(answer.worth, ratio(walked))
                over = self.check([(1, blend)], mean, ties)
                self.assertEqual(over.worth, answer.worth)
                self.check_lots(answer, [(1, blend)], mean, ties)
                self.check_lines(answer, [(1, blend)], mean, ties, 20)

    def test_many_blends_against_all_pairs_of_strengths(self):
        chance = random.Random(10)
        for _ in range(150):
            blend = some_blend(chance)
            ties = chance.choice(TIES)
            mean = Fraction(chance.randrange(40 * blend.greatest + 80), 30)
            answer = self.check([(1, blend)], ratio(mean), ties, 10)
            self.assertEqual(answer.worth, ratio(least_of_pairs(blend, mean, ties)))

    def test_each_rule_of_ties(self):
        self.assertEqual([best_answer(Blend.point(2), 1, ties=ties).worth for ties in TIES], [0, Ratio(1, 3), Ratio(1, 3)])
        self.assertEqual([best_answer(Blend.point(0), 0, ties=ties).worth for ties in TIES], [-1, 0, 1])

    def test_worths_scale_the_answer(self):
        for worth in (1, 2, 999, 1000):
            answer = self.check([(worth, Blend.point(2))], 1, 0)
            self.assertEqual(answer.worth, Ratio(worth, 3))

    def test_the_example_of_the_desk(self):
        blend = Blend([(Ratio(1, 3), Run(0, 1, 1)), (Ratio(2, 3), Run(1, 2, 4))])
        self.assertEqual(best_answer(blend, 2).worth, 0)

    def test_the_lists_are_copied(self):
        lots, lines = [Blend.point(1)], [Line(0, 0)]
        answer = Answer(Ratio(0), lots, lines)
        lots.clear()
        lines.clear()
        self.assertEqual((answer.lots, answer.lines), ([Blend.point(1)], [Line(0, 0)]))


class MoreFields(AnswerChecks):
    def test_two_fields(self):
        blends = small_blends()
        for one, other in itertools.product(blends[1:6], blends[3:]):
            for total, ties in itertools.product((0, Ratio(5, 3), 4, 11), TIES):
                self.check([(1, one), (1000, other)], total, ties)
                self.check([(3, one), (2, other)], total, ties)

    def test_two_fields_against_all_ways_to_share_the_total(self):
        fields = [(3, Blend.of_run(Run.odd(3))), (2, Blend.of_weights([(0, 1), (4, 1)]))]
        for ties in TIES:
            for total in (0, 1, 3, Ratio(9, 2), 6, 9, 12):
                answer = self.check(fields, total, ties)
                whole = Fraction(str(total))
                # The best bound is convex and bends at whole strengths only.
                marks = {Fraction(k) for k in range(14)} | {whole - k for k in range(14)}
                marks = [mark for mark in marks if 0 <= mark <= whole]
                left = min(3 * least_of_pairs(fields[0][1], mark, ties) + 2 * least_of_pairs(fields[1][1], whole - mark, ties)
                           for mark in marks)
                self.assertEqual(answer.worth, ratio(left))

    def test_twelve_fields(self):
        blends = (small_blends() * 2)[:12]
        fields = [(worth, blend) for worth, blend in zip((1, 2, 5, 1000, 10, 7, 1, 1000, 3, 3, 40, 999), blends)]
        for ties in TIES:
            for total in (0, Ratio(1, 7), 3, Ratio(100, 3), 61, 400):
                self.check(fields, total, ties, 12)

    def test_total_between_and_beyond_the_greatest_strengths(self):
        fields = [(2, Blend.point(2)), (1, Blend.point(6))]
        self.assertEqual(self.check(fields, 0, 0).worth, 3)
        self.assertEqual(self.check(fields, 3, 0).worth, -1)
        self.assertEqual(self.check(fields, 10, 0).worth, -3)
        self.assertEqual(self.check(fields, 9, -1).worth, -3)
        for total in (Ratio(21, 2), 11, 50, Ratio(BIG, 7)):
            answer = self.check(fields, total, 0)
            self.assertEqual(answer.worth, -3)
            self.assertEqual(answer.line.slope, 0)
        self.assertEqual(self.check([(5, Blend.point(0))], 3, -1).worth, -5)

    def test_no_field_is_worth_more_than_it_takes(self):
        # All of the total goes to the field where a force takes most.
        fields = [(1, Blend.point(2)), (1000, Blend.point(2))]
        answer = self.check(fields, 3, 0)
        self.assertEqual(answer.worth, -999)
        self.assertEqual([lot.mean for lot in answer.lots], [0, 3])

    def test_huge_runs(self):
        fields = [(1, Blend.of_run(Run(3, step, BIG + step))) for step in (1, 2, 3, 4)]
        for ties in TIES:
            for total in (0, 1, BIG, Ratio(5 * BIG, 3), 20 * BIG):
                self.check(fields, total, ties, 3)
        blend = Blend.of_run(Run.odd(BIG))
        self.assertEqual(best_answer(blend, BIG).worth, 0)
        self.assertEqual(best_answer(blend, HALF * BIG).worth, HALF)
        self.assertEqual(best_answer(blend, 3 * BIG).worth, -1)
        self.assertEqual(best_answer(blend, BIG - 1, ties=1).worth, Ratio(1, BIG))

    def test_huge_runs_of_unlike_steps(self):
        parts = [(Ratio(1, 4), Run(10 ** 29 * step + 5, step, BIG + step)) for step in (1, 2, 3, 4)]
        for ties in TIES:
            for total in (0, 10 ** 28, BIG, Ratio(7 * BIG, 3), 6 * BIG):
                self.check([(1, Blend(parts)), (7, Blend.of_run(Run(BIG, 3, BIG)))], total, ties, 3)


class Refusals(unittest.TestCase):
    def assert_bad(self, name, value, call, *rest):
        with self.assertRaises(BadNumber) as caught:
            call(*rest)
        self.assertEqual((caught.exception.name, caught.exception.value), (name, value))

    def test_of_best_over_in_their_order(self):
        two = Blend.point(2)
        with self.assertRaises(TooMany) as caught:
            best_over([(0, two)] * 13, -1)
        self.assertEqual((caught.exception.name, caught.exception.most), ("fields", 12))
        self.assert_bad("fields", 0, best_over, [], -1)
        self.assert_bad("worth", 0, best_over, [(1, two), (0, two), (1001, two)], -1)
        self.assert_bad("worth", 1001, best_over, [(1000, two), (1001, two), (0, two)], -1)
        self.assert_bad("worth", -3, best_over, [(-3, two)], 0)
        self.assert_bad("total", -1, best_over, [(1, two)], -1)
        self.assert_bad("total", Ratio(-1, 7), best_over, [(1, two)], Ratio(-1, 7))

    def test_of_best_answer(self):
        self.assert_bad("mean", -1, best_answer, Blend.point(2), -1)
        self.assert_bad("mean", Ratio(-1, 2), best_answer, Blend.point(2), Ratio(-1, 2))


if __name__ == "__main__":
    unittest.main()
