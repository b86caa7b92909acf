import unittest
from itertools import product

from fieldlots.errors import BadMove, LotError, NothingLeft
from fieldlots.matches import Match, Trial, within
from fieldlots.ratio import Ratio
from fieldlots.rounds import Rounds
from tests.helpers import BIG, TIES, duel_of, refused

GAMES = (([7], 2, 1), ([2, 3], 2, 2), ([4, 1, 9], 2, 1), ([1, 2, 3, 4], 2, 2), ([5, 5], 0, 0))


def games():
    for (worths, one, two), ties in product(GAMES, TIES):
        yield worths, one, two, ties, Rounds(worths, one, two, ties=ties)


def all_plays(rounds, one, two):
    """All ways to play up to so many rounds."""
    yield []
    if rounds:
        for x, y in product(range(one + 1), range(two + 1)):
            for rest in all_plays(rounds - 1, one - x, two - y):
                yield [(x, y)] + rest


def played(rounds, plays):
    game = Match(rounds)
    for x, y in plays:
        game.send(x, y)
    return game


def state(game):
    """All that a match shows, and what redo brings back, one after the other."""
    shown = (list(game.plays), game.left(), game.score(), game.standing())
    plays, undone = game.plays, []
    with game.trial():
        while refused(game.redo) is None:
            undone.append(game.plays[-1])
    assert game.plays == plays
    return shown, undone


class Plays(unittest.TestCase):
    def check(self, game, worths, one, two, ties, plays):
        self.assertEqual(game.plays, plays)
        self.assertIsInstance(game.plays, list)
        left = (one - sum(x for x, _ in plays), two - sum(y for _, y in plays))
        self.assertEqual(game.left(), left)
        self.assertIs(type(game.left()), tuple)
        score = sum(worth * duel_of(x, y, ties) for worth, (x, y) in zip(worths, plays))
        self.assertEqual(game.score(), score)
        self.assertIs(type(game.score()), int)
        # The rounds to come are a game of their own.
        behind = worths[len(plays):]
        rest = Rounds(behind, *left, ties=ties).rest(0, *left) if behind else 0
        self.assertEqual(game.standing(), score + rest)
        self.assertIsInstance(game.standing(), Ratio)

    def test_all_states(self):
        for worths, one, two, ties, rounds in games():
            everything = list(all_plays(len(worths), one, two))
            for plays in everything[::1 + len(everything) // 120]:
                game = played(rounds, plays)
                self.check(game, worths, one, two, ties, plays)

    def test_the_beginning(self):
        for worths, one, two, ties, rounds in games():
            game = Match(rounds)
            self.assertEqual((game.plays, game.left(), game.score()), ([], (one, two), 0))
            self.assertEqual(game.standing(), rounds.rest(0, one, two))

    def test_what_is_returned(self):
        game = Match(Rounds([1, 2], 3, 3))
        self.assertIsNone(game.send(1, 2))
        self.assertIsNone(game.undo())
        self.assertIsNone(game.redo())
        self.assertEqual(game.plays, [(1, 2)])
        self.assertIs(type(game.plays[0]), tuple)

    def test_matches_of_one_game_are_apart(self):
        rounds = Rounds([1, 2], 3, 3)
        game, other = Match(rounds), Match(rounds)
        game.send(3, 1)
        self.assertEqual((other.plays, other.left()), ([], (3, 3)))

    def test_methods_stand_in_the_class(self):
        for name in "send left score standing undo redo trial foreseen".split():
            self.assertIn(name, Match.__dict__)
        for name in "__enter__ __exit__".split():
            self.assertIn(name, Trial.__dict__)


class BadMoves(unittest.TestCase):
    def test_each_reason(self):
        for worths, one, two, ties, rounds in games():
            for plays in list(all_plays(len(worths), one, two))[::7]:
                game = played(rounds, plays + [(0, 0)] * (len(plays) < len(worths)))
                if len(plays) < len(worths):
                    game.undo()
                before = state(game)
                left_one, left_two = game.left()
                wrong = [(left_one + 1, 0), (0, left_two + 1), (-1, 0), (0, -1), (BIG, 0), (0, BIG), (-BIG, -BIG)]
                if len(plays) == len(worths):
                    wrong += [(0, 0), (left_one, left_two)]
                for x, y in wrong:
                    self.assertEqual(refused(game.send, x, y), ("BadMove",))
                    self.assertEqual(state(game), before)

    def test_what_was_undone_stays_behind_a_bad_move(self):
        game = played(Rounds([1, 2, 3], 3, 3), [(1, 0), (2, 1)])
        game.undo()
        self.assertRaises(BadMove, game.send, 3, 0)
        game.redo()
        self.assertEqual(game.plays, [(1, 0), (2, 1)])


class UndoAndRedo(unittest.TestCase):
    def test_back_to_the_beginning_and_to_the_end_again(self):
        for worths, one, two, ties, rounds in games():
            for plays in list(all_plays(len(worths), one, two))[::5]:
                game = Match(rounds)
                states = [state(game)[0]]
                for x, y in plays:
                    game.send(x, y)
                    states.append(state(game)[0])
                self.assertEqual(refused(game.redo), ("NothingLeft",))
                for shown in states[-2::-1]:
                    game.undo()
                    self.assertEqual(state(game)[0], shown)
                self.assertEqual(refused(game.undo), ("NothingLeft",))
                self.assertEqual(state(game)[0], states[0])
                for shown in states[1:]:
                    game.redo()
                    self.assertEqual(state(game)[0], shown)
                self.assertEqual(refused(game.redo), ("NothingLeft",))
                self.assertEqual(state(game)[0], states[-1])

    def test_send_forgets_what_was_undone(self):
        game = played(Rounds([1, 2, 3], 3, 3), [(1, 0), (0, 1), (1, 1)])
        game.undo()
        game.undo()
        game.redo()
        game.undo()
        game.send(2, 2)
        self.assertRaises(NothingLeft, game.redo)
        self.assertEqual(game.plays, [(1, 0), (2, 2)])
        game.undo()
        game.redo()
        self.assertEqual(game.plays, [(1, 0), (2, 2)])
        # The same play sent again forgets, too.
        game.undo()
        game.undo()
        game.send(1, 0)
        self.assertRaises(NothingLeft, game.redo)

    def test_nothing_to_take_back(self):
        game = Match(Rounds([1], 1, 1))
        self.assertRaises(NothingLeft, game.undo)
        self.assertRaises(NothingLeft, game.redo)
        self.assertEqual(state(game), (([], (1, 1), 0, game.standing()), []))


class Trials(unittest.TestCase):
    def setUp(self):
        self.game = played(Rounds([3, 1, 2, 4], 4, 3), [(1, 0), (0, 1), (2, 1)])
        self.game.undo()
        self.before = state(self.game)

    def wander(self, game):
        """Plays on, and takes back more than the trial's own plays."""
        game.send(1, 2)
        game.undo()
        game.undo()
        game.undo()
        game.redo()
        game.send(0, 0)
        game.send(3, 0)

    def test_it_gives_the_match(self):
        trial = self.game.trial()
        self.assertIsInstance(trial, Trial)
        with trial as given:
            self.assertIs(given, self.game)

    def test_left_in_order(self):
        with self.game.trial() as game:
            self.wander(game)
            self.assertEqual(game.plays, [(1, 0), (0, 0), (3, 0)])
        self.assertEqual(state(self.game), self.before)
        self.assertEqual(self.before[1], [(2, 1)])

    def test_only_undo_or_only_redo_inside(self):
        with self.game.trial() as game:
            game.undo()
            game.undo()
        self.assertEqual(state(self.game), self.before)
        with self.game.trial() as game:
            game.redo()
        self.assertEqual(state(self.game), self.before)

    def test_left_by_an_error(self):
        for error, doing in ((BadMove, lambda game: game.send(9, 9)), (KeyError, lambda game: {}["no"]),
                             (NothingLeft, lambda game: [game.undo() for _ in range(9)])):
            with self.assertRaises(error):
                with self.game.trial() as game:
                    self.wander(game)
                    doing(game)
            self.assertEqual(state(self.game), self.before)

    def test_as_it_was_when_it_was_entered(self):
        trial = self.game.trial()
        self.game.undo()
        now = state(self.game)
        self.assertNotEqual(now, self.before)
        with trial as game:
            self.wander_back(game)
        self.assertEqual(state(self.game), now)

    def wander_back(self, game):
        game.redo()
        game.redo()
        game.send(0, 0)

    def test_entered_again(self):
        trial = self.game.trial()
        with trial as game:
            self.wander(game)
        self.assertEqual(state(self.game), self.before)
        self.game.send(1, 1)
        now = state(self.game)
        for _ in range(2):
            with trial as game:
                self.assertEqual(state(self.game), now)
                game.send(0, 0)
            self.assertEqual(state(self.game), now)
        with self.assertRaises(BadMove):
            with trial as game:
                game.send(0, 0)
                game.send(0, 0)
        self.assertEqual(state(self.game), now)
        with trial as game:
            self.assertIs(game, self.game)

    def test_a_second_trial(self):
        first, second = self.game.trial(), self.game.trial()
        with first as game:
            game.send(1, 1)
            inner = state(self.game)
            with second:
                self.wander_from(game)
            self.assertEqual(state(self.game), inner)
            with self.assertRaises(BadMove):
                with second:
                    self.wander_from(game)
                    game.send(-1, 0)
            self.assertEqual(state(self.game), inner)
            self.assertEqual(game.foreseen((2, 1)), self.after(game, (2, 1)))
        self.assertEqual(state(self.game), self.before)

    def wander_from(self, game):
        game.undo()
        game.undo()
        game.send(0, 0)

    def after(self, game, *plays):
        """The standing after further plays, on a match of its own."""
        return played(game.rounds, game.plays + list(plays)).standing()

    def test_within(self):
        trial = self.game.trial()
        for plays in ([], [(1, 1)], [(0, 0), (3, 2)], [(3, 0), (0, 2)]):
            self.assertEqual(within(trial, *plays), self.after(self.game, *plays))
            self.assertIsInstance(within(trial, *plays), Ratio)
            self.assertEqual(state(self.game), self.before)
        for plays in ([(4, 0)], [(1, 1), (3, 0)], [(0, 0), (0, 0), (0, 0)], [(0, 0), (0, -1)]):
            self.assertEqual(refused(within, trial, *plays), ("BadMove",))
            self.assertEqual(state(self.game), self.before)
        self.assertEqual(within(trial), self.game.standing())

    def test_within_a_trial_of_ones_own(self):
        class Refusing:
            def __enter__(self):
                raise LotError("not now")

            def __exit__(self, *told):
                raise AssertionError("it was not entered")

        self.assertRaises(LotError, within, Refusing(), (0, 0))

    def test_foreseen(self):
        for plays in ([], [(1, 1)], [(0, 0), (3, 2)], [(3, 0), (0, 2)]):
            self.assertEqual(self.game.foreseen(*plays), self.after(self.game, *plays))
            self.assertEqual(state(self.game), self.before)
        for plays in ([(4, 0)], [(1, 1), (3, 0)], [(0, 0), (0, 0), (0, 0)], [(0, 0), (0, -1)]):
            self.assertEqual(refused(self.game.foreseen, *plays), ("BadMove",))
            self.assertEqual(state(self.game), self.before)

    def test_foreseen_in_all_small_games(self):
        for worths, one, two, ties, rounds in games():
            for plays in list(all_plays(len(worths), one, two))[::11]:
                for cut in range(len(plays) + 1):
                    game = played(rounds, plays[:cut])
                    self.assertEqual(game.foreseen(*plays[cut:]), played(rounds, plays).standing())
                    self.assertEqual(game.plays, plays[:cut])


if __name__ == "__main__":
    unittest.main()
