"""Games of rounds: both sides send some of the forces that they have left, round by round."""

from fieldlots.checks import check_ties, check_worth
from fieldlots.duels import duel
from fieldlots.errors import BadNumber, NoPlace, TooMany
from fieldlots.ratio import Ratio

MOST_ROUNDS = 4
MOST_FORCES = 5


def _check_game(worths, one, two):
    if not worths:
        raise BadNumber("rounds", 0)
    if len(worths) > MOST_ROUNDS:
        raise TooMany("rounds", MOST_ROUNDS)
    for worth in worths:
        check_worth(worth)
    if not 0 <= one <= MOST_FORCES:
        raise BadNumber("one", one)
    if not 0 <= two <= MOST_FORCES:
        raise BadNumber("two", two)


class Rounds:
    """A game of rounds with these worths and forces, solved in all its states."""

    def __init__(self, worths, one, two, *, ties=0):
        check_ties(ties)
        _check_game(worths, one, two)
        self.worths = list(worths)
        self.one = one
        self.two = two
        self.ties = ties
        self._solve()

    def _solve(self):
        """Solves each round in each state, from the last round on."""
        self._rests = [{state: Ratio(0) for state in self._states()}]
        self._duels = []
        for at in reversed(range(len(self.worths))):
            solved = {(one, two): duel(self._table(at, one, two)) for one, two in self._states()}
            self._duels = [solved] + self._duels
            self._rests = [{state: found.worth for state, found in solved.items()}] + self._rests

    def _states(self):
        """All pairs of forces that the sides can have left."""
        return [(one, two) for one in range(self.one + 1) for two in range(self.two + 1)]

    def _table(self, at, one, two):
        """What the first side gets, now and from the next state on, for each number that each side can send."""
        behind = self._rests[0]
        return [[self.pay(at, x, y) + behind[(one - x, two - y)] for y in range(two + 1)] for x in range(one + 1)]

    def _check_state(self, at, one, two, rounds):
        if not 0 <= at < rounds:
            raise NoPlace("no round with this index")
        if not 0 <= one <= self.one or not 0 <= two <= self.two:
            raise NoPlace("no state with these forces")

    def rest(self, at, one, two):
        """The worth of the rounds from this index on if the sides have so many forces left."""
        self._check_state(at, one, two, len(self._rests))
        return self._rests[at][(one, two)]

    def shares(self, at, one, two):
        """The shares with which the sides send 0, 1, 2, .. in a state."""
        self._check_state(at, one, two, len(self._duels))
        found = self._duels[at][(one, two)]
        return list(found.shares_one), list(found.shares_two)

    def pay(self, at, x, y):
        """What a round pays the first side if x and y are sent."""
        if x == y:
            return self.ties * self.worths[at]
        return self.worths[at] if x > y else -self.worths[at]
