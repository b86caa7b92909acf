"""True games: both sides spread all their whole forces over a ground."""

from fieldlots.checks import check_ties
from fieldlots.duels import duel
from fieldlots.errors import TooMany
from fieldlots.grounds import check_forces, spread_gain
from fieldlots.plans import Plan
from fieldlots.ratio import as_ratio
from fieldlots.replies import best_reply

MOST_SPREADS = 12


class TrueGame:
    """What the first side is sure of, and the plans that make both sides sure."""

    def __init__(self, worth, plan_one, plan_two, *, ties=0):
        check_ties(ties)
        self.worth = as_ratio(worth)
        self.plan_one = plan_one
        self.plan_two = plan_two
        self.ties = ties

    def holds(self):
        """True if the best replies leave both plans just the worth."""
        if best_reply(self.plan_one, self.plan_two.forces, ties=self.ties).worth != self.worth:
            return False
        return best_reply(self.plan_two, self.plan_one.forces, ties=-self.ties).worth == -self.worth


def _side(ground, total):
    """All spreads of a side, if there are not too many."""
    if ground.count_spreads(total) > MOST_SPREADS:
        raise TooMany("spreads", MOST_SPREADS)
    return list(ground.spreads(total))


def true_game(ground, total_one, total_two, *, ties=0):
    """Solves the game in which the sides spread these totals over the ground."""
    check_ties(ties)
    check_forces("total_one", total_one)
    check_forces("total_two", total_two)
    side_one = _side(ground, total_one)
    side_two = _side(ground, total_two)
    found = duel([[spread_gain(ground, one, two, ties=ties) for two in side_two] for one in side_one])
    plan_one = Plan(ground, list(zip(found.shares_one, side_one)))
    plan_two = Plan(ground, list(zip(found.shares_two, side_two)))
    return TrueGame(found.worth, plan_one, plan_two, ties=ties)
