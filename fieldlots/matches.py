"""Matches: running games of rounds."""

from fieldlots.errors import BadMove, NothingLeft


class Match:
    """A game of rounds with the plays that stand and those that were undone."""

    def __init__(self, rounds):
        self.rounds = rounds
        # A change puts a new list in the place of the old one, so that a trial only has to keep the old ones.
        self.plays = []
        self.undone = []

    def send(self, one, two):
        """Plays a round."""
        left_one, left_two = self.left()
        if len(self.plays) == len(self.rounds.worths):
            raise BadMove("all rounds are over")
        if not 0 <= one <= left_one or not 0 <= two <= left_two:
            raise BadMove("a side has not so many forces left")
        self.plays = self.plays + [(one, two)]
        self.undone = []

    def left(self):
        """The forces that the sides have left."""
        sent_one = sum([one for one, _ in self.plays])
        sent_two = sum([two for _, two in self.plays])
        return self.rounds.one - sent_one, self.rounds.two - sent_two

    def score(self):
        """What the rounds so far have paid the first side."""
        return sum([self.rounds.pay(at, one, two) for at, (one, two) in enumerate(self.plays)])

    def standing(self):
        """The score and what the rounds to come are worth."""
        one, two = self.left()
        return self.score() + self.rounds.rest(len(self.plays), one, two)

    def undo(self):
        """Takes back the last play that stands."""
        if not self.plays:
            raise NothingLeft("no play stands")
        self.undone = self.undone + self.plays[-1:]
        self.plays = self.plays[:-1]

    def redo(self):
        """Plays the last undone play again."""
        if not self.undone:
            raise NothingLeft("no play was undone")
        self.plays = self.plays + self.undone[-1:]
        self.undone = self.undone[:-1]

    def trial(self):
        """A trial of this match."""
        return Trial(self)

    def foreseen(self, *plays):
        """The standing after further plays, which are not kept."""
        trial = self.trial()
        return within(trial, *plays)


class Trial:
    """A context in which a match may go on as it likes; when it is left, the match is as before."""

    def __init__(self, game):
        self._game = game
        self._plays = []
        self._undone = []

    def __enter__(self):
        self._plays = self._game.plays
        self._undone = self._game.undone
        return self._game

    def __exit__(self, kind, value, trace):
        game = self._game
        game.plays = self._plays
        game.undone = self._undone


def within(trial, *plays):
    """The standing that is reached if the plays are sent within the trial."""
    with trial as game:
        for one, two in plays:
            game.send(one, two)
        reached = game.standing()
    return reached
