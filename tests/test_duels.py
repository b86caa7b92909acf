import random
import unittest
from fractions import Fraction
from itertools import product

from fieldlots.duels import Duel, duel, shrink
from fieldlots.errors import BadNumber, Mismatch, TooMany
from fieldlots.ratio import Ratio
from tests.helpers import BIG, fraction, ratio


def some_table(chance, height, width, low, high, under=1):
    return [[ratio(Fraction(chance.randrange(low, high + 1), chance.randrange(1, under + 1))) for _ in range(width)]
            for _ in range(height)]


class Tables(unittest.TestCase):
    def check(self, rows):
        found = duel(rows)
        self.assertIsInstance(found, Duel)
        for shares, many in ((found.shares_one, len(rows)), (found.shares_two, len(rows[0]))):
            self.assertIsInstance(shares, list)
            self.assertEqual(len(shares), many)
            for share in shares:
                self.assertIsInstance(share, Ratio)
                self.assertGreaterEqual(share, 0)
            self.assertEqual(sum(fraction(share) for share in shares), 1)
        self.assertIsInstance(found.worth, Ratio)
        worth = fraction(found.worth)
        table = [[fraction(entry) for entry in row] for row in rows]
        ones = [fraction(share) for share in found.shares_one]
        twos = [fraction(share) for share in found.shares_two]
        for column in zip(*table):
            self.assertGreaterEqual(sum(entry * share for entry, share in zip(column, ones)), worth)
        for row in table:
            self.assertLessEqual(sum(entry * share for entry, share in zip(row, twos)), worth)
        return found

    def test_the_example(self):
        found = self.check([[0, 2], [3, 1]])
        self.assertEqual(str(found.worth), "3/2")
        self.assertEqual(found.shares_one, [Ratio(1, 2), Ratio(1, 2)])
        self.assertEqual(found.shares_two, [Ratio(1, 4), Ratio(3, 4)])

    def test_one_row_or_one_column(self):
        self.assertEqual(self.check([[7]]).worth, 7)
        self.assertEqual(self.check([[Ratio(-1, 2)]]).worth, Ratio(-1, 2))
        self.assertEqual(self.check([[3, -1, 2]]).worth, -1)
        self.assertEqual(self.check([[3], [-1], [8], [2]]).worth, 8)
        self.assertEqual(self.check([list(range(12))]).worth, 0)
        self.assertEqual(self.check([[k] for k in range(12)]).worth, 11)

    def test_all_sizes(self):
        chance = random.Random(31)
        for height, width in product(range(1, 13), repeat=2):
            self.check(some_table(chance, height, width, -9, 9))
            self.check(some_table(chance, height, width, -1, 1))

    def test_numbers_below_0_only_and_0_only(self):
        chance = random.Random(32)
        for height, width in ((1, 1), (1, 5), (3, 2), (7, 7), (12, 12)):
            self.assertLess(self.check(some_table(chance, height, width, -50, -1)).worth, 0)
            self.assertEqual(self.check([[0] * width for _ in range(height)]).worth, 0)
            self.assertEqual(self.check([[Ratio(-BIG, 7)] * width for _ in range(height)]).worth, Ratio(-BIG, 7))

    def test_games_with_known_worths(self):
        self.assertEqual(self.check([[0, -1, 1], [1, 0, -1], [-1, 1, 0]]).worth, 0)
        self.assertEqual(self.check([[1, 0], [0, 1]]).worth, Ratio(1, 2))
        self.assertEqual(self.check([[int(at == row) for at in range(12)] for row in range(12)]).worth, Ratio(1, 12))
        self.assertEqual(self.check([[-int(at == row) for at in range(12)] for row in range(12)]).worth, Ratio(-1, 12))
        self.assertEqual(self.check([[4, 1], [2, 3]]).worth, Ratio(5, 2))
        self.assertEqual(self.check([[1, 2], [0, 5]]).worth, 1)

    def test_alike(self):
        self.assertEqual(self.check([[1, 1, 4], [1, 1, 4], [2, 2, 0]]).worth, Ratio(8, 5))
        self.assertEqual(self.check([[3, 3]] * 12).worth, 3)

    def test_fractions_of_30_figures(self):
        chance = random.Random(33)
        for height, width in ((2, 2), (3, 5), (6, 6), (12, 12)):
            self.check(some_table(chance, height, width, -BIG, BIG, BIG))
        # With the greatest entries on the diagonal, all rows and columns are needed.
        rows = some_table(chance, 12, 12, 1, BIG, BIG)
        for at in range(12):
            rows[at][at] = BIG + rows[at][at]
        self.check(rows)

    def test_entries_far_apart(self):
        tiny = Ratio(1, BIG)
        self.assertEqual(self.check([[tiny, 0], [0, tiny]]).worth, tiny * Ratio(1, 2))
        self.check([[BIG, tiny, -1], [-BIG, 0, 1], [tiny, -tiny, 0]])
        self.assertEqual(self.check([[Ratio(1, 2), Ratio(-1, 3)], [Ratio(-1, 3), Ratio(1, 2)]]).worth, Ratio(1, 12))

    def test_adding_and_multiplying(self):
        chance = random.Random(34)
        for height, width in ((2, 3), (4, 4), (5, 2), (9, 12)):
            rows = some_table(chance, height, width, -20, 20, 6)
            worth = self.check(rows).worth
            for more in (1, -7, Ratio(5, 3), BIG, Ratio(-1, BIG)):
                self.assertEqual(self.check([[entry + more for entry in row] for row in rows]).worth, worth + more)
            for factor in (2, Ratio(3, 7), BIG, Ratio(1, BIG)):
                self.assertEqual(self.check([[entry * factor for entry in row] for row in rows]).worth, worth * factor)
            turned = [[-entry for entry in column] for column in zip(*rows)]
            self.assertEqual(self.check(turned).worth, -worth)

    def test_whole_numbers_and_ratios_beside_each_other(self):
        self.assertEqual(self.check([[0, Ratio(2)], [Ratio(9, 3), 1]]).worth, Ratio(3, 2))

    def test_the_rows_stay(self):
        rows = [[0, 2], [3, 1]]
        duel(rows)
        shrink(rows)
        self.assertEqual(rows, [[0, 2], [3, 1]])
        ones, twos = [Ratio(1)], [Ratio(1)]
        made = Duel(Ratio(0), ones, twos)
        ones.clear()
        twos.clear()
        self.assertEqual((made.shares_one, made.shares_two), ([1], [1]))


def needless_rows(rows, kept, columns):
    for row in kept:
        for other in kept:
            if other != row and all(rows[other][at] >= rows[row][at] for at in columns):
                if other < row or any(rows[other][at] > rows[row][at] for at in columns):
                    yield row


def needless_columns(rows, kept, columns):
    for column in columns:
        for other in columns:
            if other != column and all(rows[at][other] <= rows[at][column] for at in kept):
                if other < column or any(rows[at][other] < rows[at][column] for at in kept):
                    yield column


def walked_shrink(rows):
    """What stays, by the words of the point."""
    kept, columns = set(range(len(rows))), set(range(len(rows[0])))
    while True:
        found = list(needless_rows(rows, kept, columns))
        if found:
            kept.remove(max(found))
            continue
        found = list(needless_columns(rows, kept, columns))
        if not found:
            return sorted(kept), sorted(columns)
        columns.remove(max(found))


class Shrinking(unittest.TestCase):
    def check(self, rows, kept, columns):
        found = shrink(rows)
        self.assertIsInstance(found, tuple)
        self.assertEqual(found, (kept, columns))
        for indexes in found:
            self.assertIsInstance(indexes, list)
            self.assertTrue(all(type(at) is int for at in indexes))

    def test_nothing_is_needless(self):
        self.check([[7]], [0], [0])
        self.check([[0, 2], [3, 1]], [0, 1], [0, 1])
        self.check([[0, -1, 1], [1, 0, -1], [-1, 1, 0]], [0, 1, 2], [0, 1, 2])
        self.check([[Ratio(1, 2), 1], [1, Ratio(1, 3)]], [0, 1], [0, 1])

    def test_the_later_of_like_ones_is_dropped(self):
        self.check([[0, 2], [0, 2], [3, 1], [3, 1]], [0, 2], [0, 1])
        self.check([[0, 0, 3, 3], [2, 2, 1, 1]], [0, 1], [0, 2])
        self.check([[5, 5], [5, 5]], [0], [0])
        self.check([[Ratio(2), 1], [2, 1], [1, 2]], [0, 2], [0, 1])

    def test_greater_rows_and_lesser_columns_stay(self):
        self.check([[1, 1], [2, 1]], [1], [1])
        self.check([[1, 2]], [0], [0])
        self.check([[2, 1]], [0], [1])
        self.check([[1], [3], [2]], [1], [0])

    def test_a_row_that_is_needless_only_once_a_column_is_gone(self):
        rows = [[1, 4, 9], [4, 1, 9], [0, 0, 10]]
        self.check(rows, [0, 1], [0, 1])
        self.assertEqual(list(needless_rows(rows, [0, 1, 2], [0, 1, 2])), [])

    def test_one_row_and_one_column_stay(self):
        self.check([[3, 5, 4], [2, 9, 1], [1, 0, 8]], *walked_shrink([[3, 5, 4], [2, 9, 1], [1, 0, 8]]))
        self.check([[3, 5], [2, 9]], [0], [0])
        self.check([[k + at for at in range(12)] for k in range(12)], [11], [0])
        self.check([[0] * 12 for _ in range(12)], [0], [0])

    def test_rows_go_ahead_of_columns(self):
        # Once the row is gone, the columns are alike and the later one goes, not the earlier.
        self.check([[2, 2], [1, 0]], [0], [0])
        # The last of the needless rows goes first.
        self.check([[1, 1], [2, 2], [2, 2], [0, 0]], [1], [0])

    def test_against_a_plain_count(self):
        for entries in product(range(2), repeat=6):
            for rows in ([list(entries[:3]), list(entries[3:])], [list(entries[at:at + 2]) for at in (0, 2, 4)]):
                self.check(rows, *walked_shrink(rows))
        chance = random.Random(41)
        for _ in range(400):
            height, width = chance.randrange(1, 6), chance.randrange(1, 6)
            rows = some_table(chance, height, width, 0, chance.choice((1, 2, 4)), chance.choice((1, 2)))
            self.check(rows, *walked_shrink(rows))
        for _ in range(20):
            rows = some_table(chance, 12, 12, 0, 2)
            for at in range(12):
                rows[at][chance.randrange(12)] = 3
            self.check(rows, *walked_shrink(rows))

    def test_the_worth_stays(self):
        chance = random.Random(42)
        for _ in range(100):
            rows = some_table(chance, 5, 5, -3, 3, 2)
            kept, columns = shrink(rows)
            self.assertEqual(duel([[rows[row][column] for column in columns] for row in kept]).worth, duel(rows).worth)


class Refusals(unittest.TestCase):
    def assert_bad(self, name, rows):
        for call in (duel, shrink):
            with self.assertRaises(BadNumber) as caught:
                call(rows)
            self.assertEqual((caught.exception.name, caught.exception.value), (name, 0))

    def assert_many(self, name, rows):
        for call in (duel, shrink):
            with self.assertRaises(TooMany) as caught:
                call(rows)
            self.assertEqual((caught.exception.name, caught.exception.most), (name, 12))

    def test_in_their_order(self):
        self.assert_bad("rows", [])
        self.assert_many("rows", [[1]] * 13)
        self.assert_many("rows", [[]] * 13)
        self.assert_many("rows", [[1] * 13] * 13)
        self.assert_bad("columns", [[]])
        self.assert_bad("columns", [[], [1]])
        self.assert_many("columns", [[1] * 13])
        self.assert_many("columns", [[1] * 13, [1]])
        for rows in ([[1, 2], [1]], [[1], [1, 2]], [[1], []], [[1, 2], [1, 2], [1] * 13]):
            for call in (duel, shrink):
                self.assertRaises(Mismatch, call, rows)


if __name__ == "__main__":
    unittest.main()
