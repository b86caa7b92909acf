import random
import unittest
from itertools import combinations, product

from fieldlots.errors import BadNumber, Mismatch, NoLimit, TooMany
from fieldlots.packing import Packing, pack
from fieldlots.ratio import Ratio
from tests.helpers import BIG, fraction


class Tasks(unittest.TestCase):
    def check(self, rows, limits):
        found = pack(rows, limits)
        self.assertIsInstance(found, Packing)
        self.assertIsInstance(found.amounts, list)
        self.assertIsInstance(found.prices, list)
        self.assertEqual((len(found.amounts), len(found.prices)), (len(rows[0]), len(rows)))
        for each in [found.worth] + found.amounts + found.prices:
            self.assertIsInstance(each, Ratio)
        worth = fraction(found.worth)
        amounts = [fraction(each) for each in found.amounts]
        prices = [fraction(each) for each in found.prices]
        self.assertGreaterEqual(min(amounts + prices), 0)
        for row, limit in zip(rows, limits):
            self.assertLessEqual(sum(entry * amount for entry, amount in zip(row, amounts)), limit)
        for column in zip(*rows):
            self.assertGreaterEqual(sum(entry * price for entry, price in zip(column, prices)), 1)
        self.assertEqual(sum(amounts), worth)
        self.assertEqual(sum(limit * price for limit, price in zip(limits, prices)), worth)
        return found

    def test_small_tasks_with_known_worths(self):
        self.assertEqual(self.check([[1]], [1]).worth, 1)
        self.assertEqual(self.check([[3]], [2]).worth, Ratio(2, 3))
        self.assertEqual(self.check([[1, 2]], [4]).worth, 4)
        self.assertEqual(self.check([[2], [3]], [4, 3]).worth, 1)
        self.assertEqual(self.check([[1, 2], [2, 1]], [3, 3]).worth, 2)
        self.assertEqual(self.check([[1, 0], [0, 1]], [5, 7]).worth, 12)
        self.assertEqual(self.check([[1, 1, 0], [0, 1, 1], [1, 0, 1]], [1, 1, 1]).worth, Ratio(3, 2))

    def test_all_tables_of_few_entries(self):
        for entries in product(range(3), repeat=4):
            rows = [list(entries[:2]), list(entries[2:])]
            if all(any(column) for column in zip(*rows)):
                for limits in ([1, 1], [2, 5]):
                    self.check(rows, limits)

    def test_all_sizes(self):
        chance = random.Random(21)
        for height, width in product(range(1, 13), repeat=2):
            rows = [[chance.choice((0, 0, 1, 2, 9)) for _ in range(width)] for _ in range(height)]
            rows[chance.randrange(height)] = [chance.randrange(1, 4) for _ in range(width)]
            self.check(rows, [chance.randrange(1, 20) for _ in range(height)])

    def test_great_tasks(self):
        chance = random.Random(22)
        for most in (1, 3, 1000, BIG):
            for _ in range(8):
                rows = [[chance.randrange(most + 1) for _ in range(12)] for _ in range(11)] + [[1] * 12]
                self.check(rows, [chance.randrange(1, most + 1) for _ in range(12)])
                self.check([[entry + BIG for entry in row] for row in rows], [BIG] * 12)

    def test_limits_far_apart(self):
        chance = random.Random(23)
        for _ in range(10):
            rows = [[chance.randrange(5) for _ in range(12)] for _ in range(11)] + [[1] * 12]
            self.check(rows, [chance.choice((1, BIG - 1, BIG, BIG + 1)) for _ in range(12)])

    def test_rows_and_columns_alike(self):
        self.assertEqual(self.check([[2, 2, 2]] * 12, [3] * 12).worth, Ratio(3, 2))
        self.assertEqual(self.check([[1] * 12] * 12, [1] * 12).worth, 1)
        self.assertEqual(self.check([[1, 2, 1, 2]] * 5, [9, 4, 4, 5, 4]).worth, 4)
        self.assertEqual(self.check([[0, 0, 1], [1, 1, 0]] * 6, [2, 3] * 6).worth, 5)

    def test_many_rows_tight_at_once(self):
        # Each pair of columns shares a row, and all rows are tight at the same amounts.
        for width in (2, 3, 4, 5):
            rows = [[int(at in pair) for at in range(width)] for pair in combinations(range(width), 2)]
            self.assertEqual(self.check(rows, [2] * len(rows)).worth, 2 if width == 2 else width)
        for width in range(1, 13):
            staircase = [[int(at <= row) for at in range(width)] for row in range(12)]
            self.check(staircase, [1] * 12)
            circle = [[int((at - row) in (0, 1, 1 - width)) for at in range(width)] for row in range(width)]
            self.check(circle, [1] * width)
        rows = [[(row * column) % 3 for column in range(1, 13)] for row in range(1, 12)] + [[1] * 12]
        for limit in (1, 6, BIG):
            self.check(rows, [limit] * 12)

    def test_a_task_that_misleads_the_steepest_way(self):
        # Powers as in the cube of Klee and Minty, where a way along the edges may pass all corners.
        for size in range(1, 13):
            rows = [[2 ** (row - column + 1) if column < row else int(column == row) for column in range(size)]
                    for row in range(size)]
            self.check(rows, [5 ** (row + 1) for row in range(size)])
            self.check([row[::-1] for row in rows], [5 ** (row + 1) for row in range(size)])

    def test_the_arguments_stay(self):
        rows, limits = [[1, 2], [2, 1]], [3, 4]
        found = pack(rows, limits)
        self.assertEqual((rows, limits), ([[1, 2], [2, 1]], [3, 4]))
        found.amounts.clear()
        found.prices.clear()
        self.assertEqual(len(pack(rows, limits).amounts), 2)
        amounts, prices = [Ratio(1)], [Ratio(2)]
        packing = Packing(Ratio(1), amounts, prices)
        amounts.clear()
        prices.clear()
        self.assertEqual((packing.amounts, packing.prices), ([1], [2]))


class Refusals(unittest.TestCase):
    def assert_bad(self, name, value, rows, limits):
        with self.assertRaises(BadNumber) as caught:
            pack(rows, limits)
        self.assertEqual((caught.exception.name, caught.exception.value), (name, value))

    def assert_many(self, name, rows, limits):
        with self.assertRaises(TooMany) as caught:
            pack(rows, limits)
        self.assertEqual((caught.exception.name, caught.exception.most), (name, 12))

    def test_sizes(self):
        self.assert_bad("rows", 0, [], [])
        self.assert_bad("rows", 0, [], [0])
        self.assert_many("rows", [[1]] * 13, [1] * 13)
        self.assert_many("rows", [[]] * 13, [])
        self.assert_many("rows", [[1] * 13] * 13, [0])
        self.assert_bad("columns", 0, [[]], [1])
        self.assert_bad("columns", 0, [[], [1]], [0])
        self.assert_many("columns", [[1] * 13], [1])
        self.assert_many("columns", [[1] * 13, [1]], [])
        self.assertEqual(pack([[1] * 12] * 12, [1] * 12).worth, 1)

    def test_unlike_lengths(self):
        for rows in ([[1, 1], [1]], [[1], [1, 1]], [[1], []], [[1, 1], [1, 1], [1] * 13], [[-1, 1], [1]]):
            self.assertRaises(Mismatch, pack, rows, [1] * len(rows))
            self.assertRaises(Mismatch, pack, rows, [0])
        for limits in ([], [1], [1, 1, 1], [0]):
            self.assertRaises(Mismatch, pack, [[1, 1], [1, 1]], limits)
            self.assertRaises(Mismatch, pack, [[-1, 1], [0, 0]], limits)

    def test_entries_ahead_of_limits(self):
        self.assert_bad("entry", -3, [[1, 0], [-3, -2]], [1, 1])
        self.assert_bad("entry", -2, [[1, -2], [-3, 0]], [0, 0])
        self.assert_bad("entry", -1, [[0, 0], [0, -1]], [1, 1])
        self.assert_bad("limit", 0, [[1, 0], [1, 0]], [1, 0])
        self.assert_bad("limit", -5, [[1, 0], [1, 0]], [-5, 0])
        self.assert_bad("limit", -BIG, [[0]], [-BIG])

    def test_columns_without_a_limit(self):
        for rows, column in (([[0]], 0), ([[1, 0], [2, 0]], 1), ([[0, 1], [0, 1]], 0), ([[1, 0, 0]], 1), ([[0, 0]], 0),
                             ([[1] * 11 + [0]] * 12, 11)):
            with self.assertRaises(NoLimit) as caught:
                pack(rows, [1] * len(rows))
            self.assertIs(type(caught.exception.column), int)
            self.assertEqual(caught.exception.column, column)


if __name__ == "__main__":
    unittest.main()
