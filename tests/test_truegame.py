import unittest
from itertools import product

from fieldlots.errors import BadNumber, TooMany
from fieldlots.grounds import Ground
from fieldlots.plans import Plan, plan_gain, plans_gain
from fieldlots.ratio import Ratio
from fieldlots.replies import best_reply
from fieldlots.truegame import TrueGame, true_game
from tests.helpers import TIES

GAMES = (
    (Ground.plain(1), 3, 2), (Ground.plain(1), 0, 0), (Ground.plain(2), 3, 2), (Ground.plain(2), 5, 5),
    (Ground.plain(3), 4, 6), (Ground.plain(3), 3, 0), (Ground.plain(3), 0, 4), (Ground.plain(12), 5, 3),
    (Ground((5, 2), (3, 1)), 2, 3), (Ground((5, 1), (3, 1)), 6, 4), (Ground((1, 1), (1000, 1), (2, 1)), 2, 2),
    (Ground((1, 1), (7, 1), (2, 1), (3, 2)), 1, 1), (Ground((2, 3)), 0, 0),
)


class Games(unittest.TestCase):
    def check(self, ground, total_one, total_two, ties):
        game = true_game(ground, total_one, total_two, ties=ties)
        self.assertIsInstance(game, TrueGame)
        self.assertIsInstance(game.worth, Ratio)
        self.assertIs(type(game.ties), int)
        self.assertEqual(game.ties, ties)
        for plan, forces in ((game.plan_one, total_one), (game.plan_two, total_two)):
            self.assertIsInstance(plan, Plan)
            self.assertIs(plan.ground, ground)
            self.assertEqual(plan.forces, forces)
        for spread in ground.spreads(total_two):
            self.assertGreaterEqual(plan_gain(game.plan_one, spread, ties=ties), game.worth)
        for spread in ground.spreads(total_one):
            self.assertGreaterEqual(plan_gain(game.plan_two, spread, ties=-ties), -game.worth)
        self.assertIs(game.holds(), True)
        return game

    def test_neither_side_can_do_better(self):
        for (ground, total_one, total_two), ties in product(GAMES, TIES):
            game = self.check(ground, total_one, total_two, ties)
            self.assertEqual(best_reply(game.plan_one, total_two, ties=ties).worth, game.worth)
            self.assertEqual(best_reply(game.plan_two, total_one, ties=-ties).worth, -game.worth)
            self.assertEqual(plans_gain(game.plan_one, game.plan_two, ties=ties), game.worth)

    def test_games_with_known_worths(self):
        self.assertEqual(self.check(Ground.plain(1), 3, 2, 0).worth, 1)
        self.assertEqual([self.check(Ground((7, 1)), 2, 2, ties).worth for ties in TIES], [-7, 0, 7])
        self.assertEqual([self.check(Ground((7, 2)), 0, 0, ties).worth for ties in TIES], [-14, 0, 14])
        # Against a side without forces, every field with a force is won, and the others are ties.
        self.assertEqual(self.check(Ground.plain(2), 3, 0, 0).worth, 2)
        self.assertEqual(self.check(Ground.plain(2), 1, 0, 0).worth, 1)
        self.assertEqual(self.check(Ground.plain(2), 1, 0, -1).worth, 0)
        self.assertEqual(self.check(Ground((1, 1), (1000, 1)), 1, 0, -1).worth, 999)

    def test_the_same_forces_without_ties(self):
        for ground, forces in ((Ground.plain(2), 4), (Ground.plain(3), 6), (Ground((5, 2), (3, 1)), 3),
                               (Ground((1, 1), (7, 1), (2, 1)), 2), (Ground.plain(12), 5), (Ground((9, 1)), 40)):
            self.assertEqual(self.check(ground, forces, forces, 0).worth, 0)

    def test_the_sides_exchanged(self):
        for (ground, total_one, total_two), ties in product(GAMES, TIES):
            worth = true_game(ground, total_one, total_two, ties=ties).worth
            self.assertEqual(true_game(ground, total_two, total_one, ties=-ties).worth, -worth)

    def test_ties_left_out_pay_nothing(self):
        self.assertEqual(true_game(Ground.plain(1), 2, 2).worth, 0)
        self.assertEqual(true_game(Ground.plain(1), 2, 2).ties, 0)
        self.assertRaises(TypeError, true_game, Ground.plain(1), 2, 2, 0)

    def test_methods_stand_in_the_class(self):
        self.assertIn("holds", TrueGame.__dict__)


class Holding(unittest.TestCase):
    def test_false_worths(self):
        for (ground, total_one, total_two), ties in product(GAMES, TIES):
            game = true_game(ground, total_one, total_two, ties=ties)
            for worth in (game.worth + 1, game.worth - 1, game.worth + Ratio(1, 10 ** 30), -game.worth - 1):
                self.assertIs(TrueGame(worth, game.plan_one, game.plan_two, ties=ties).holds(), False)

    def test_other_plans(self):
        ground = Ground.plain(3)
        game = true_game(ground, 4, 4)
        poor = Plan(ground, [(1, ((4, 0, 0),))])
        self.assertIs(TrueGame(game.worth, game.plan_one, game.plan_two).holds(), True)
        self.assertIs(TrueGame(game.worth, poor, game.plan_two).holds(), False)
        self.assertIs(TrueGame(game.worth, game.plan_one, poor).holds(), False)
        # What the poor plan is sure of is no worth either.
        least = best_reply(poor, 4).worth
        self.assertIs(TrueGame(least, poor, game.plan_two).holds(), False)
        self.assertIs(TrueGame(-least, game.plan_one, poor).holds(), False)

    def test_other_forces_and_other_ties(self):
        game = true_game(Ground.plain(2), 3, 2)
        more = true_game(Ground.plain(2), 4, 4)
        self.assertNotEqual(game.worth, more.worth)
        self.assertIs(TrueGame(game.worth, game.plan_one, more.plan_two).holds(), False)
        game = true_game(Ground.plain(1), 2, 2, ties=1)
        self.assertIs(TrueGame(game.worth, game.plan_one, game.plan_two, ties=1).holds(), True)
        for ties in (-1, 0):
            self.assertIs(TrueGame(game.worth, game.plan_one, game.plan_two, ties=ties).holds(), False)
            self.assertIs(TrueGame(ties, game.plan_one, game.plan_two, ties=ties).holds(), True)


class Refusals(unittest.TestCase):
    def assert_bad(self, name, value, *rest, **more):
        with self.assertRaises(BadNumber) as caught:
            true_game(*rest, **more)
        self.assertEqual((caught.exception.name, caught.exception.value), (name, value))

    def test_totals_in_their_order(self):
        ground = Ground((1, 1), (1, 1))
        self.assert_bad("ties", 2, ground, -1, -1, ties=2)
        for wrong in (-1, 41, -10 ** 30):
            self.assert_bad("total_one", wrong, ground, wrong, 0)
            self.assert_bad("total_one", wrong, ground, wrong, 99)
            self.assert_bad("total_two", wrong, ground, 0, wrong)
            # The totals are checked ahead of the number of spreads.
            self.assert_bad("total_two", wrong, ground, 40, wrong)
        self.assertEqual(true_game(Ground.plain(1), 40, 40).worth, 0)
        self.assertEqual(true_game(Ground.plain(1), 0, 40).worth, -1)

    def test_too_many_spreads(self):
        # One more force gives one more spread.
        ground = Ground((1, 1), (2, 1))
        self.assertEqual((ground.count_spreads(11), ground.count_spreads(12)), (12, 13))
        self.assertIs(true_game(ground, 11, 11, ties=1).holds(), True)
        self.assertIs(true_game(ground, 11, 3).holds(), True)
        self.assertIs(true_game(ground, 3, 11).holds(), True)
        many = Ground((1, 3), (2, 3), (3, 3), (4, 3))
        for refused in ((ground, 12, 0), (ground, 0, 12), (ground, 12, 12), (ground, 40, 0), (many, 40, 40), (many, 0, 40)):
            with self.assertRaises(TooMany) as caught:
                true_game(*refused)
            self.assertEqual((caught.exception.name, caught.exception.most), ("spreads", 12))


if __name__ == "__main__":
    unittest.main()
