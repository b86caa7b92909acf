import unittest
from itertools import islice, product
from math import comb

from fieldlots.errors import BadNumber, BadSpread, TooMany
from fieldlots.grounds import Ground, spread_gain
from fieldlots.ratio import Ratio
from tests.helpers import TIES, ratio, rows_of, walked_spread_gain, walked_spreads

SHAPES = ((1,), (2,), (3,), (4,), (1, 1), (2, 1), (1, 2), (2, 2), (3, 2), (1, 1, 1), (2, 1, 2), (1, 2, 1, 1), (1, 1, 1, 2))


def ground_of(sizes):
    return Ground(*[(at + 1, many) for at, many in enumerate(sizes)])


class Refusing(unittest.TestCase):
    def assert_bad(self, name, value, call, *rest):
        with self.assertRaises(BadNumber) as caught:
            call(*rest)
        self.assertEqual((caught.exception.name, caught.exception.value), (name, value))

    def assert_many(self, name, most, call, *rest):
        with self.assertRaises(TooMany) as caught:
            call(*rest)
        self.assertEqual((caught.exception.name, caught.exception.most), (name, most))

    def test_classes(self):
        self.assert_bad("classes", 0, Ground)
        self.assert_many("classes", 4, Ground, *[(1, 1)] * 5)
        self.assert_many("classes", 4, Ground, *[(0, 0)] * 5)
        self.assertEqual(Ground(*[(1, 1)] * 4).fields, 4)

    def test_each_class_in_order(self):
        for worth in (0, 1001, -1, 10 ** 30):
            self.assert_bad("worth", worth, Ground, (worth, 1))
            self.assert_bad("worth", worth, Ground, (1, 13), (worth, 0))
        for many in (0, -1, -10 ** 30):
            self.assert_bad("many", many, Ground, (1, many))
            self.assert_bad("many", many, Ground, (1000, many), (0, 1))
            self.assert_bad("many", many, Ground, (1, 12), (1, 13), (1, many))
        self.assert_bad("worth", 0, Ground, (0, 0))
        self.assert_bad("worth", 1001, Ground, (1, 1), (1001, 0), (0, 0))

    def test_fields(self):
        self.assert_many("fields", 12, Ground, (1, 13))
        self.assert_many("fields", 12, Ground, (1, 6), (2, 7))
        self.assert_many("fields", 12, Ground, (1, 10), (2, 1), (3, 1), (4, 1))
        self.assertEqual(Ground((1, 6), (2, 6)).fields, 12)
        self.assertEqual(Ground((1000, 12)).fields, 12)

    def test_plain(self):
        self.assertEqual(Ground.plain(3), Ground((1, 3)))
        self.assertEqual(Ground.plain(3).classes, [(1, 3)])
        self.assertEqual(Ground.plain(12).fields, 12)
        self.assert_bad("many", 0, Ground.plain, 0)
        self.assert_bad("many", -4, Ground.plain, -4)
        self.assert_many("fields", 12, Ground.plain, 13)


class Showing(unittest.TestCase):
    def test_attributes(self):
        ground = Ground((5, 2), (1, 3), (1000, 1))
        self.assertEqual(ground.classes, [(5, 2), (1, 3), (1000, 1)])
        self.assertIsInstance(ground.classes, list)
        self.assertIs(type(ground.fields), int)
        self.assertEqual(ground.fields, 6)
        self.assertEqual((Ground.MOST_FIELDS, Ground.MOST_FORCES), (12, 40))
        self.assertEqual((ground.MOST_FIELDS, ground.MOST_FORCES), (12, 40))

    def test_equality(self):
        self.assertIs(Ground((5, 2), (1, 3)) == Ground((5, 2), (1, 3)), True)
        self.assertIs(Ground((5, 2), (1, 3)) != Ground((5, 2), (1, 3)), False)
        for other in (Ground((1, 3), (5, 2)), Ground((5, 2)), Ground((5, 2), (1, 3), (1, 1)), Ground((5, 3), (1, 3)),
                      Ground((4, 2), (1, 3)), 5, [(5, 2), (1, 3)], None):
            self.assertIs(Ground((5, 2), (1, 3)) == other, False)
        self.assertIs(Ground((1, 2)) == Ground((1, 1), (1, 1)), False)

    def test_methods_stand_in_the_class(self):
        for name in ("plain", "MOST_FIELDS", "MOST_FORCES", "total", "spreads", "count_spreads", "__eq__", "__init__"):
            self.assertIn(name, Ground.__dict__)


class Totals(unittest.TestCase):
    def test_spreads_that_fit(self):
        ground = Ground((1, 2), (7, 1), (3, 3))
        self.assertEqual(ground.total(((0, 0), (0,), (0, 0, 0))), 0)
        self.assertEqual(ground.total(((4, 4), (9,), (5, 1, 1))), 24)
        self.assertEqual(ground.total(((40, 0), (0,), (0, 0, 0))), 40)
        self.assertEqual(ground.total(((0, 0), (0,), (20, 20, 0))), 40)
        self.assertEqual(ground.total(((10, 10), (10,), (5, 3, 2))), 40)
        self.assertIs(type(ground.total(((4, 4), (9,), (5, 1, 1)))), int)
        self.assertEqual(Ground.plain(1).total(((40,),)), 40)

    def test_spreads_that_do_not_fit(self):
        ground = Ground((1, 2), (7, 1))
        bad = [
            (), ((2, 1),), ((2, 1), (1,), (1,)), ((2, 1), (1,), ()), ((1,), (2, 1)), ((), ()),
            ((2,), (1,)), ((2, 1, 0), (1,)), ((2, 1), ()), ((2, 1), (1, 0)), ((), (1,)),
            ((1, 2), (1,)), ((0, 1), (0,)), ((1, -1), (1,)), ((2, 1), (-1,)), ((-1, -1), (5,)), ((-1, -2), (5,)),
            ((41, 0), (0,)), ((0, 0), (41,)), ((20, 20), (1,)), ((14, 14), (14,)), ((10 ** 30, 0), (0,)),
        ]
        for spread in bad:
            self.assertRaises(BadSpread, ground.total, spread)
        self.assertRaises(BadSpread, Ground.plain(3).total, ((3, 2, 3),))
        self.assertRaises(BadSpread, Ground.plain(1).total, ((-1,),))
        self.assertRaises(BadSpread, Ground.plain(1).total, ((),))


class Spreads(unittest.TestCase):
    def test_against_a_walk_over_all_tuples(self):
        for sizes in SHAPES:
            ground = ground_of(sizes)
            for forces in range(7):
                walked = sorted(walked_spreads(sizes, forces), reverse=True)
                self.assertEqual(list(ground.spreads(forces)), walked, (sizes, forces))
                self.assertEqual(ground.count_spreads(forces), len(walked))
                for spread in walked:
                    self.assertEqual(ground.total(spread), forces)

    def test_the_order_reads_all_strengths_through(self):
        found = list(Ground((1, 2), (1, 2)).spreads(3))
        self.assertEqual(found, [((3, 0), (0, 0)), ((2, 1), (0, 0)), ((2, 0), (1, 0)), ((1, 1), (1, 0)),
                                 ((1, 0), (2, 0)), ((1, 0), (1, 1)), ((0, 0), (3, 0)), ((0, 0), (2, 1))])
        flat = [sum(spread, ()) for spread in Ground((4, 3), (1, 2), (2, 1)).spreads(9)]
        self.assertEqual(flat, sorted(set(flat), reverse=True))

    def test_counts_of_spreads_listed_elsewhere(self):
        for sizes in ((5,), (6, 2), (12,), (3, 3, 2), (1, 1, 1, 9)):
            ground = ground_of(sizes)
            for forces in (0, 1, 8, 13):
                self.assertEqual(ground.count_spreads(forces), len(list(ground.spreads(forces))))
        self.assertEqual(Ground.plain(12).count_spreads(40), sum(1 for _ in Ground.plain(12).spreads(40)))

    def test_counts_of_many(self):
        # Sums of one strength for each of four fields.
        self.assertEqual(Ground(*[(1, 1)] * 4).count_spreads(40), comb(43, 3))
        # (n + 3) ** 2 / 12, rounded, is the number of rows of three strengths with the sum n.
        rows = [((n + 3) ** 2 + 6) // 12 for n in range(41)]
        pairs = [sum(rows[k] * rows[n - k] for k in range(n + 1)) for n in range(41)]
        many = sum(pairs[k] * pairs[40 - k] for k in range(41))
        self.assertEqual(Ground((1, 3), (2, 3), (3, 3), (4, 3)).count_spreads(40), many)
        self.assertGreater(many, 10 ** 8)
        self.assertEqual(Ground.plain(3).count_spreads(6), len(rows_of(3, 6)))
        self.assertIs(type(Ground.plain(3).count_spreads(6)), int)

    def test_no_more_are_made_than_are_taken(self):
        first = list(islice(Ground((1, 3), (2, 3), (3, 3), (4, 3)).spreads(40), 3))
        rest = ((0, 0, 0),) * 2
        self.assertEqual(first, [((40, 0, 0), (0, 0, 0)) + rest, ((39, 1, 0), (0, 0, 0)) + rest,
                                 ((39, 0, 0), (1, 0, 0)) + rest])

    def test_bounds_of_the_total(self):
        ground = Ground((1, 1), (2, 1))
        self.assertEqual(list(ground.spreads(0)), [((0,), (0,))])
        self.assertEqual(ground.count_spreads(0), 1)
        self.assertEqual(list(ground.spreads(40)), [((40 - k,), (k,)) for k in range(41)])
        self.assertEqual(ground.count_spreads(40), 41)
        for total in (-1, 41, -10 ** 30, 10 ** 30):
            with self.assertRaises(BadNumber) as caught:
                ground.count_spreads(total)
            self.assertEqual((caught.exception.name, caught.exception.value), ("total", total))
            listing = ground.spreads(total)
            with self.assertRaises(BadNumber) as caught:
                next(iter(listing))
            self.assertEqual((caught.exception.name, caught.exception.value), ("total", total))


class Gains(unittest.TestCase):
    def test_against_all_orders(self):
        for classes in ([(1, 1)], [(3, 2)], [(1, 3)], [(1000, 2), (1, 1)], [(2, 1), (5, 3)], [(1, 1), (2, 1), (3, 2)],
                        [(1, 1), (7, 1), (2, 1), (3, 2)]):
            ground = Ground(*classes)
            ones = list(ground.spreads(4))[::3]
            others = list(ground.spreads(3))[::2] + [ones[0]]
            for one, other, ties in product(ones, others, TIES):
                gain = spread_gain(ground, one, other, ties=ties)
                self.assertIsInstance(gain, Ratio)
                self.assertEqual(gain, ratio(walked_spread_gain(classes, one, other, ties)))

    def test_examples(self):
        ground = Ground((6, 3))
        self.assertEqual(spread_gain(ground, ((2, 1, 0),), ((1, 1, 1),)), 0)
        self.assertEqual(spread_gain(ground, ((2, 1, 0),), ((1, 1, 1),), ties=1), 6)
        self.assertEqual(spread_gain(ground, ((2, 1, 0),), ((1, 1, 1),), ties=-1), -6)
        self.assertEqual(str(spread_gain(Ground((1, 2), (1, 1)), ((2, 0), (5,)), ((1, 0), (5,)))), "1/2")
        self.assertRaises(TypeError, spread_gain, ground, ((1, 1, 1),), ((1, 1, 1),), 0)

    def test_unlike_forces_are_fine(self):
        self.assertEqual(spread_gain(Ground.plain(1), ((40,),), ((0,),)), 1)

    def test_refusals_in_their_order(self):
        ground = Ground.plain(2)
        good, short, many = ((1, 1),), ((1,),), ((41, 0),)
        for pair in ((good, short), (short, good), (short, many), (good, ()), ((), good), (many, good), (good, many)):
            self.assertRaises(BadSpread, spread_gain, ground, *pair)
        with self.assertRaises(BadNumber) as caught:
            spread_gain(ground, short, short, ties=2)
        self.assertEqual((caught.exception.name, caught.exception.value), ("ties", 2))

    def test_the_first_spread_is_checked_first(self):
        seen = []

        class Noting(Ground):
            def total(self, spread):
                seen.append(spread)
                return super().total(spread)

        self.assertRaises(BadSpread, spread_gain, Noting((1, 2)), ((1,),), ((2,),))
        self.assertEqual(seen, [((1,),)])
        seen.clear()
        spread_gain(Noting((1, 2)), ((1, 0),), ((2, 1),))
        self.assertEqual(seen, [((1, 0),), ((2, 1),)])


if __name__ == "__main__":
    unittest.main()
