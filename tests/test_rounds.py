import unittest
from itertools import product

from fieldlots.errors import NoPlace
from fieldlots.ratio import Ratio
from fieldlots.rounds import Rounds
from tests.helpers import BIG, TIES, duel_of, fraction, refused

GAMES = (([1], 5, 5), ([7], 0, 3), ([2, 3], 3, 4), ([5, 1], 4, 0), ([1, 1, 1], 3, 3), ([4, 2, 9], 2, 5), ([1000, 1, 30], 0, 0),
         ([1, 2, 3, 4], 3, 2), ([4, 3, 2, 1], 2, 3))


class States(unittest.TestCase):
    def check_state(self, game, worths, ties, at, one, two):
        worth = game.rest(at, one, two)
        self.assertIsInstance(worth, Ratio)
        found = game.shares(at, one, two)
        self.assertIsInstance(found, tuple)
        for shares, most in zip(found, (one, two), strict=True):
            self.assertIsInstance(shares, list)
            self.assertEqual(len(shares), most + 1)
            for share in shares:
                self.assertIsInstance(share, Ratio)
                self.assertGreaterEqual(share, 0)
            self.assertEqual(sum(fraction(share) for share in shares), 1)

        def then(x, y):
            return worths[at] * duel_of(x, y, ties) + fraction(game.rest(at + 1, one - x, two - y))

        for y in range(two + 1):
            self.assertGreaterEqual(sum(fraction(share) * then(x, y) for x, share in enumerate(found[0])), fraction(worth))
        for x in range(one + 1):
            self.assertLessEqual(sum(fraction(share) * then(x, y) for y, share in enumerate(found[1])), fraction(worth))

    def check(self, worths, one, two, ties):
        game = Rounds(worths, one, two, ties=ties)
        for at, x, y in product(range(len(worths)), range(one + 1), range(two + 1)):
            self.check_state(game, worths, ties, at, x, y)
        for x, y in product(range(one + 1), range(two + 1)):
            behind = game.rest(len(worths), x, y)
            self.assertIsInstance(behind, Ratio)
            self.assertEqual(behind, 0)
        return game

    def test_small_games(self):
        for (worths, one, two), ties in product(GAMES, TIES):
            self.check(worths, one, two, ties)

    def test_the_greatest_games(self):
        for worths, ties in product(([1000, 1, 999, 500], [1, 2, 4, 8]), TIES):
            self.check(worths, 5, 5, ties)

    def test_known_worths(self):
        # In the last round all is sent.
        for x, y, ties in product(range(6), range(6), TIES):
            self.assertEqual(Rounds([3], x, y, ties=ties).rest(0, x, y), 3 * duel_of(x, y, ties))
        self.assertEqual([self.check([4, 9], 0, 0, ties).rest(0, 0, 0) for ties in TIES], [-13, 0, 13])
        # One force against none wins one round, the better one.
        self.assertEqual(self.check([4, 9], 1, 0, 0).rest(0, 1, 0), 9)
        self.assertEqual(self.check([4, 9], 1, 0, -1).rest(0, 1, 0), 5)
        self.assertEqual(self.check([4, 9], 2, 0, 0).rest(0, 2, 0), 13)
        # Each side has one force for two like rounds: both wait or both send, and nobody gains.
        self.assertEqual(self.check([1, 1], 1, 1, 0).rest(0, 1, 1), 0)

    def test_the_sides_exchanged(self):
        for (worths, one, two), ties in product(GAMES, TIES):
            game, other = Rounds(worths, one, two, ties=ties), Rounds(worths, two, one, ties=-ties)
            for at, x, y in product(range(len(worths) + 1), range(one + 1), range(two + 1)):
                self.assertEqual(game.rest(at, x, y), -other.rest(at, y, x))

    def test_a_later_state_is_a_game_of_its_own(self):
        game = Rounds([4, 2, 9], 3, 2, ties=1)
        for at, x, y in product(range(3), range(4), range(3)):
            self.assertEqual(game.rest(at, x, y), Rounds([4, 2, 9][at:], x, y, ties=1).rest(0, x, y))

    def test_pay(self):
        for ties in TIES:
            game = Rounds([4, 1000, 1], 5, 2, ties=ties)
            for at, x, y in product(range(3), range(6), range(3)):
                found = game.pay(at, x, y)
                self.assertIs(type(found), int)
                self.assertEqual(found, [4, 1000, 1][at] * duel_of(x, y, ties))

    def test_ties_left_out_pay_nothing(self):
        self.assertEqual(Rounds([3], 1, 1).rest(0, 1, 1), 0)
        self.assertEqual(Rounds([3], 1, 1).pay(0, 1, 1), 0)
        self.assertRaises(TypeError, Rounds, [3], 1, 1, 0)

    def test_lists_are_copied(self):
        worths = [4, 2]
        game = Rounds(worths, 2, 2, ties=1)
        worths[0] = 900
        worths.append(3)
        self.assertEqual(game.pay(0, 1, 0), 4)
        self.assertRaises(NoPlace, game.shares, 2, 0, 0)
        self.assertEqual(game.rest(0, 2, 2), Rounds([4, 2], 2, 2, ties=1).rest(0, 2, 2))

    def test_methods_stand_in_the_class(self):
        for name in "rest shares pay".split():
            self.assertIn(name, Rounds.__dict__)


class Refusals(unittest.TestCase):
    def test_states_that_do_not_exist(self):
        for worths, one, two in GAMES:
            game = Rounds(worths, one, two)
            rounds = len(worths)
            for at in (-1, -rounds, rounds + 1, BIG, -BIG):
                self.assertRaises(NoPlace, game.rest, at, 0, 0)
                self.assertRaises(NoPlace, game.shares, at, 0, 0)
            self.assertRaises(NoPlace, game.shares, rounds, 0, 0)
            self.assertRaises(NoPlace, game.shares, rounds, one, two)
            for at in range(rounds + 1):
                for x, y in ((one + 1, two), (one, two + 1), (-1, 0), (0, -1), (BIG, 0), (0, BIG), (one + 1, -1)):
                    self.assertRaises(NoPlace, game.rest, at, x, y)
                    self.assertRaises(NoPlace, game.shares, at, x, y)

    def test_in_their_order(self):
        self.assertEqual(refused(Rounds, [], -1, -1, ties=2), ("BadNumber", "ties", 2))
        self.assertEqual(refused(Rounds, [], -1, -1), ("BadNumber", "rounds", 0))
        self.assertEqual(refused(Rounds, [0] * 5, -1, -1), ("TooMany", "rounds", 4))
        self.assertEqual(refused(Rounds, [1] * 5, 1, 1), ("TooMany", "rounds", 4))
        for wrong in (0, 1001, -1, BIG):
            self.assertEqual(refused(Rounds, [wrong], -1, -1), ("BadNumber", "worth", wrong))
            self.assertEqual(refused(Rounds, [1, 1000, wrong, -2], 6, 6), ("BadNumber", "worth", wrong))
        for wrong in (-1, 6, BIG, -BIG):
            self.assertEqual(refused(Rounds, [1], wrong, -2), ("BadNumber", "one", wrong))
            self.assertEqual(refused(Rounds, [1], 5, wrong), ("BadNumber", "two", wrong))
            self.assertEqual(refused(Rounds, [1], 0, wrong), ("BadNumber", "two", wrong))
        self.assertIsNone(refused(Rounds, [1, 1000, 1, 1000], 5, 0))
        self.assertIsNone(refused(Rounds, [1000], 0, 5))


if __name__ == "__main__":
    unittest.main()
