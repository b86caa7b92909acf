import random
import unittest
from itertools import product

from fieldlots.ratio import Ratio
from fieldlots.rowgame import RowGame, count_layouts, layouts, least_forces, row_game, row_pay
from tests.helpers import BIG, TIES, duel_of, fraction, refused


def walked_layouts(total, fields):
    """All layouts of so many forces, in descending order, by a walk over all tuples."""
    return sorted((row for row in product(range(total + 1), repeat=fields) if sum(row) == total), reverse=True)


def walked_pay(one, other, prizes, ties):
    """The first side's prizes less the second's, stretch by stretch."""
    winners = [duel_of(x, y, ties) for x, y in zip(one, other)]
    total = 0
    for low, high in product(range(len(winners)), repeat=2):
        if low <= high and winners[low] != 0 and set(winners[low:high + 1]) == {winners[low]}:
            longer = [at for at in (low - 1, high + 1) if 0 <= at < len(winners) and winners[at] == winners[low]]
            if not longer:
                total += winners[low] * prizes[min(high - low, len(prizes) - 1)]
    return total


def wins(sent, facing, ties):
    """True if what is sent wins the field against the layout's holder."""
    return sent > facing or sent == facing and ties == -1


class Pays(unittest.TestCase):
    def check(self, one, other, prizes, ties):
        found = row_pay(one, other, prizes, ties=ties)
        self.assertIs(type(found), int)
        self.assertEqual(found, walked_pay(one, other, prizes, ties))
        self.assertEqual(row_pay(other, one, prizes, ties=-ties), -found)
        return found

    def test_small_layouts(self):
        for fields in range(5):
            for one, other, ties in product(product(range(3), repeat=fields), product(range(2), repeat=fields), TIES):
                for prizes in ([1], [1, 3], [2, 0, 7]):
                    self.check(one, other, prizes, ties)

    def test_long_layouts(self):
        chance = random.Random(28)
        for _ in range(300):
            fields = chance.randrange(5, 13)
            one, other = [tuple(chance.randrange(3) for _ in range(fields)) for _ in range(2)]
            prizes = [chance.randrange(100) for _ in range(chance.randrange(1, 15))]
            for ties in TIES:
                self.check(one, other, prizes, ties)

    def test_stretches_by_hand(self):
        prizes = [1, 10, 100]
        self.assertEqual(self.check((5,), (1,), prizes, 0), 1)
        self.assertEqual(self.check((5, 5), (1, 1), prizes, 0), 10)
        self.assertEqual(self.check((5, 5, 5), (1, 1, 1), prizes, 0), 100)
        self.assertEqual(self.check((5,) * 9, (1,) * 9, prizes, 0), 100)
        self.assertEqual(self.check((1,) * 9, (5,) * 9, prizes, 0), -100)
        self.assertEqual(self.check((5, 5, 1, 5, 5), (1, 1, 5, 1, 1), prizes, 0), 19)
        # Nobody wins the field between.
        self.assertEqual(self.check((5, 5, 1, 5, 5), (1, 1, 1, 1, 1), prizes, 0), 20)
        self.assertEqual(self.check((5, 5, 1, 5, 5), (1, 1, 1, 1, 1), prizes, 1), 100)
        self.assertEqual(self.check((5, 5, 1, 5, 5), (1, 1, 1, 1, 1), prizes, -1), 19)
        self.assertEqual(self.check((1, 1, 1), (1, 1, 1), prizes, 0), 0)
        self.assertEqual(self.check((BIG, 0), (BIG - 1, 1), [BIG], 0), 0)
        self.assertEqual(self.check((BIG, 1), (BIG - 1, 0), [7, BIG], 0), BIG)

    def test_empty_layouts(self):
        for ties in TIES:
            self.assertEqual(self.check((), (), [5], ties), 0)

    def test_ties_left_out_pay_nobody(self):
        self.assertEqual(row_pay((1, 2), (1, 1), [4, 9]), 4)
        self.assertRaises(TypeError, row_pay, (1,), (1,), [4], 0)

    def test_refusals_in_their_order(self):
        self.assertEqual(refused(row_pay, (1,), (), [], ties=2), ("BadNumber", "ties", 2))
        self.assertEqual(refused(row_pay, (1,), (1,), []), ("BadNumber", "prizes", 0))
        self.assertEqual(refused(row_pay, (1,), (), []), ("BadNumber", "prizes", 0))
        self.assertEqual(refused(row_pay, (1,), (1,), [0, -1, -2]), ("BadNumber", "prize", -1))
        self.assertEqual(refused(row_pay, (1,), (1, 2), [3, 2, -BIG]), ("BadNumber", "prize", -BIG))
        for one, other in (((1,), ()), ((), (1,)), ((1, 2), (1, 2, 3))):
            self.assertEqual(refused(row_pay, one, other, [0]), ("Mismatch",))
        self.assertEqual(row_pay((1,), (0,), [0]), 0)

    def test_the_arguments_stay(self):
        prizes = [3, 1]
        row_pay((1, 2, 0), (0, 2, 1), prizes)
        row_game(2, (1, 1), prizes)
        self.assertEqual(prizes, [3, 1])


class LeastForces(unittest.TestCase):
    def check(self, layout, length, ties):
        least, at = least_forces(layout, length, ties=ties)
        self.assertIs(type(least), int)
        self.assertIs(type(at), int)
        return least, at

    def test_against_a_search(self):
        for fields in range(1, 5):
            for layout, ties in product(product(range(3), repeat=fields), TIES):
                sendings = sorted(product(range(4), repeat=fields), key=sum)
                for length in range(1, fields + 1):
                    found = self.check(layout, length, ties)
                    places = range(fields - length + 1)

                    def taken(sent, at):
                        return all(wins(sent[k], layout[k], ties) for k in range(at, at + length))

                    least = next(sum(sent) for sent in sendings if any(taken(sent, at) for at in places))
                    first = min(at for at in places for sent in sendings if sum(sent) == least and taken(sent, at))
                    self.assertEqual(found, (least, first))

    def test_several_stretches_alike(self):
        self.assertEqual(self.check((2, 1, 1, 1, 2), 2, 0), (4, 1))
        self.assertEqual(self.check((3, 3, 3, 3), 2, 0), (8, 0))
        self.assertEqual(self.check((3, 1, 3, 1, 3), 1, 1), (2, 1))
        self.assertEqual(self.check((3, 1, 3, 1, 3), 1, -1), (1, 1))
        self.assertEqual(self.check((3, 1, 3, 1, 0), 2, -1), (1, 3))
        self.assertEqual(self.check((0, 4, 4, 0), 2, -1), (4, 0))
        self.assertEqual(self.check((5, 0, 0, 5), 4, 0), (14, 0))

    def test_long_layouts(self):
        chance = random.Random(29)
        for _ in range(200):
            layout = tuple(chance.choice((0, 1, 2, BIG)) for _ in range(chance.randrange(1, 30)))
            length, ties = chance.randrange(1, len(layout) + 1), chance.choice(TIES)
            costs = [sum(layout[at:at + length]) + (0 if ties == -1 else length) for at in range(len(layout) - length + 1)]
            self.assertEqual(self.check(layout, length, ties), (min(costs), costs.index(min(costs))))

    def test_lengths_that_do_not_exist(self):
        for layout in ((), (1,), (1, 2, 3)):
            for length in (0, -1, len(layout) + 1, BIG):
                self.assertEqual(refused(least_forces, layout, length), ("NoPlace",))
                self.assertEqual(refused(least_forces, layout, length, ties=2), ("BadNumber", "ties", 2))
        self.assertEqual(least_forces((1, 2, 3), 3), (9, 0))
        self.assertEqual(least_forces((1, 2, 3), 1), (2, 0))
        self.assertRaises(TypeError, least_forces, (1,), 1, 0)


class Layouts(unittest.TestCase):
    def test_against_a_walk(self):
        for total, fields in product(range(7), range(1, 6)):
            found = list(layouts(total, fields))
            self.assertEqual(found, walked_layouts(total, fields))
            self.assertEqual(count_layouts(total, fields), len(found))
            self.assertIs(type(count_layouts(total, fields)), int)
            self.assertTrue(all(type(row) is tuple for row in found))

    def test_ends(self):
        self.assertEqual(list(layouts(0, 1)), [(0,)])
        self.assertEqual(list(layouts(9, 1)), [(9,)])
        self.assertEqual(list(layouts(BIG, 1)), [(BIG,)])
        self.assertEqual(list(layouts(0, 5)), [(0,) * 5])
        self.assertEqual(list(layouts(2, 2)), [(2, 0), (1, 1), (0, 2)])
        self.assertEqual(len(list(layouts(1, 700))), 700)

    def test_it_yields_one_by_one(self):
        found = layouts(40, 12)
        self.assertEqual(next(found), (40,) + (0,) * 11)
        self.assertEqual(next(found), (39, 1) + (0,) * 10)

    def test_great_counts(self):
        self.assertEqual(count_layouts(BIG, 2), BIG + 1)
        self.assertEqual(count_layouts(BIG, 3), (BIG + 1) * (BIG + 2) // 2)
        self.assertEqual(count_layouts(2, BIG), BIG * (BIG + 1) // 2)
        self.assertEqual(count_layouts(0, BIG), 1)
        self.assertEqual(count_layouts(BIG, 1), 1)
        self.assertEqual(count_layouts(40, 12), 47626016970)


class Games(unittest.TestCase):
    def check(self, fields, totals, prizes, ties):
        game = row_game(fields, totals, prizes, ties=ties)
        self.assertIsInstance(game, RowGame)
        self.assertIsInstance(game.worth, Ratio)
        for parts, total in ((game.parts_one, totals[0]), (game.parts_two, totals[1])):
            self.assertIsInstance(parts, list)
            self.assertEqual([layout for _, layout in parts], walked_layouts(total, fields))
            for part in parts:
                self.assertIsInstance(part, tuple)
                self.assertIsInstance(part[0], Ratio)
                self.assertGreaterEqual(part[0], 0)
            self.assertEqual(sum(fraction(share) for share, _ in parts), 1)
        worth = fraction(game.worth)
        for _, two in game.parts_two:
            got = sum(fraction(share) * walked_pay(one, two, prizes, ties) for share, one in game.parts_one)
            self.assertGreaterEqual(got, worth)
        for _, one in game.parts_one:
            paid = sum(fraction(share) * walked_pay(one, two, prizes, ties) for share, two in game.parts_two)
            self.assertLessEqual(paid, worth)
        return game

    def test_small_games(self):
        for (fields, most), ties in product(((1, 3), (2, 4), (3, 3), (4, 2), (11, 1), (12, 1)), TIES):
            for one, two in product(range(most + 1), repeat=2):
                if count_layouts(max(one, two), fields) <= 12:
                    for prizes in ([1], [0, 1], [1, 3, 2]):
                        self.check(fields, (one, two), prizes, ties)

    def test_known_worths(self):
        self.assertEqual(self.check(1, (3, 2), [5], 0).worth, 5)
        self.assertEqual(self.check(1, (2, 3), [5], 0).worth, -5)
        self.assertEqual([self.check(1, (40, 40), [5, 9], ties).worth for ties in TIES], [-5, 0, 5])
        self.assertEqual(self.check(12, (0, 0), [5, 9], 1).worth, 9)
        self.assertEqual(self.check(2, (2, 0), [1, 5], 0).worth, 5)
        # Only a stretch of both fields earns something.
        self.assertEqual(self.check(2, (3, 3), [0, 4], 0).worth, 0)

    def test_most_layouts(self):
        for ties in TIES:
            self.check(2, (11, 11), [1, 3], ties)
            self.check(12, (1, 1), [3, 1, 4, 1, 5], ties)
            self.check(2, (11, 3), [1, 3], ties)

    def test_ties_left_out_pay_nobody(self):
        self.assertEqual(row_game(1, (1, 1), [2]).worth, 0)
        self.assertRaises(TypeError, row_game, 1, (1, 1), [2], 0)

    def test_refusals_in_their_order(self):
        self.assertEqual(refused(row_game, 0, (-1, -1), [], ties=2), ("BadNumber", "ties", 2))
        self.assertEqual(refused(row_game, 0, (-1, -1), []), ("BadNumber", "prizes", 0))
        self.assertEqual(refused(row_game, 0, (-1, -1), [1, -3, -4]), ("BadNumber", "prize", -3))
        for fields in (0, -1, -BIG):
            self.assertEqual(refused(row_game, fields, (-1, -1), [1]), ("BadNumber", "fields", fields))
        for fields in (13, BIG):
            self.assertEqual(refused(row_game, fields, (-1, -1), [1]), ("TooMany", "fields", 12))
        for wrong in (-1, 41, BIG):
            self.assertEqual(refused(row_game, 12, (wrong, -2), [1]), ("BadNumber", "total", wrong))
            self.assertEqual(refused(row_game, 12, (40, wrong), [1]), ("BadNumber", "total", wrong))
            self.assertEqual(refused(row_game, 12, (wrong, 40), [1]), ("BadNumber", "total", wrong))
        self.assertIsNone(refused(row_game, 1, (40, 0), [1]))
        self.assertIsNone(refused(row_game, 1, (0, 40), [1]))
        for totals in ((12, 0), (0, 12), (12, 12), (40, 3), (3, 40)):
            self.assertEqual(refused(row_game, 2, totals, [1]), ("TooMany", "layouts", 12))
        self.assertIsNone(refused(row_game, 2, (11, 0), [1]))
        self.assertIsNone(refused(row_game, 2, (0, 11), [1]))
        self.assertEqual(refused(row_game, 12, (2, 1), [1]), ("TooMany", "layouts", 12))
        self.assertEqual(refused(row_game, 12, (40, 40), [1]), ("TooMany", "layouts", 12))

    def test_lists_are_copied(self):
        parts_one, parts_two = [(Ratio(1), (1,))], [(Ratio(1), (2,))]
        game = RowGame(Ratio(0), parts_one, parts_two)
        parts_one.clear()
        parts_two.clear()
        self.assertEqual((game.parts_one, game.parts_two), ([(1, (1,))], [(1, (2,))]))


if __name__ == "__main__":
    unittest.main()
