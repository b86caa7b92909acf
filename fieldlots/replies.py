"""Best replies: the spreads that leave a plan least."""

from fieldlots.checks import check_ties
from fieldlots.errors import NoPlace
from fieldlots.grounds import check_forces
from fieldlots.ratio import Ratio
from fieldlots.stretches import common_under, weighted, whole_gain


class Reply:
    """The least that a plan gets, a spread that leaves it just this, and a bound for each state before it."""

    def __init__(self, spread, least, under):
        self.spread = spread
        self._least = least
        self._under = under
        self.worth = self.bound(0, len(least[0]) - 1)

    def bound(self, at, left):
        """The least on the fields from this index on if exactly so many forces lie on them, or None."""
        if not 0 <= at < len(self._least):
            raise NoPlace("no field with this index")
        if not 0 <= left < len(self._least[at]):
            raise NoPlace("not so many forces")
        least = self._least[at][left]
        return None if least is None else Ratio(least, self._under)


def _field_gains(classes, margins, total, ties):
    """For each field, what the plan gets there against each strength up to total, times under; and under."""
    under = common_under(margins)
    found = []
    for (worth, many), margin in zip(classes, margins):
        weights = weighted(margin, under)
        row = [worth * whole_gain(weights, k, ties) for k in range(total + 1)]
        found = found + [row for _ in range(many)]
    return found, under


def _cheapest(gains, behind, left):
    """The least on a field and those behind it, and the strength on the field with which it is reached."""
    least = None
    strength = 0
    for k in range(left + 1):
        rest = behind[left - k]
        if rest is not None and (least is None or gains[k] + rest < least):
            least = gains[k] + rest
            strength = k
    return least, strength


def _bounds(field_gains, total):
    """For each number of fields passed and of forces left, the least on the others, and the strength on the next."""
    least = [[0] + [None for _ in range(total)]]
    strengths_there = []
    for gains in field_gains[::-1]:
        found = [_cheapest(gains, least[-1], left) for left in range(total + 1)]
        least.append([value for value, _ in found])
        strengths_there.append([strength for _, strength in found])
    return least[::-1], strengths_there[::-1]


def _dealt(classes, strengths_there, total):
    """The spread that takes on each field the strength with which the bound is reached."""
    left = total
    at = 0
    spread = []
    for _, many in classes:
        row = []
        for _ in range(many):
            row.append(strengths_there[at][left])
            left = left - strengths_there[at][left]
            at = at + 1
        spread.append(tuple(sorted([int(k) for k in row], reverse=True)))
    return tuple(spread)


def best_reply(plan, total, *, ties=0):
    """The least that the plan gets against any spread of so many forces on its ground."""
    check_ties(ties)
    check_forces("total", total)
    classes = plan.ground.classes
    field_gains, under = _field_gains(classes, plan.margins(), total, ties)
    least, strengths_there = _bounds(field_gains, total)
    return Reply(_dealt(classes, strengths_there, total), least, under)
