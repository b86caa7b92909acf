"""Books of the spreads that a side was seen to send, and what they tell of its plan."""

from fieldlots.checks import check_ties
from fieldlots.errors import Mismatch, NeverSeen, TooMany
from fieldlots.grounds import check_forces
from fieldlots.plans import Plan
from fieldlots.ratio import Ratio, added, as_ratio
from fieldlots.replies import best_reply
from fieldlots.shares import check_parts

MOST_PLAYS = 200
MOST_PLANS = 12


class Book:
    """The spreads that a side was seen to send, all with the same forces."""

    def __init__(self, ground, forces):
        check_forces("forces", forces)
        self.ground = ground
        self.forces = forces
        self._seen = []

    def add(self, spread):
        """Notes one more spread."""
        if self.ground.total(spread) != self.forces:
            raise Mismatch("a spread with other forces")
        if len(self._seen) >= MOST_PLAYS:
            raise TooMany("plays", MOST_PLAYS)
        self._seen.append(spread)

    def plan(self):
        """The plan that deals each spread as often as it was seen."""
        if not self._seen:
            raise NeverSeen("no spread was seen")
        numbers = {}
        for spread in self._seen:
            numbers[spread] = numbers.get(spread, 0) + 1
        many = len(self._seen)
        return Plan(self.ground, [(Ratio(number, many), spread) for spread, number in numbers.items()])

    def reply(self, total, *, ties=0):
        """The best reply to what was seen, with ties as the side that was seen counts them."""
        check_ties(ties)
        return best_reply(self.plan(), total, ties=ties)

    def __iadd__(self, other):
        self.add(other)
        return self

    def __len__(self):
        return len(self._seen)

    def __iter__(self):
        return iter(self._seen)


def _weight(share, plan, seen):
    """The share times the chance that the plan deals just these spreads."""
    weight = as_ratio(share)
    for spread in seen:
        weight = weight * plan[spread]
    return weight


def weigh(parts, seen):
    """The shares of the plans after these spreads were seen in plays of one of them."""
    if len(parts) > MOST_PLANS:
        raise TooMany("plans", MOST_PLANS)
    check_parts(parts)
    if len(seen) > MOST_PLAYS:
        raise TooMany("plays", MOST_PLAYS)
    weights = [_weight(share, plan, seen) for share, plan in parts]
    total = added(weights)
    if total == 0:
        raise NeverSeen("no plan deals these spreads")
    return [weight.over(total) for weight in weights]
