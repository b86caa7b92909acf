"""Plans: spreads of one ground chosen by shares."""

from fieldlots.blends import Blend, meet
from fieldlots.checks import check_ties
from fieldlots.errors import Mismatch
from fieldlots.ratio import Ratio, added
from fieldlots.runs import Run
from fieldlots.shares import check_parts, mixed_parts, put_together


def _common_forces(ground, parts):
    """The forces that all of the spreads have."""
    found = None
    for _, spread in parts:
        forces = ground.total(spread)
        if found is None:
            found = forces
        if forces != found:
            raise Mismatch("two spreads with unlike forces")
    return found


class Plan:
    """Parts, pairs of a share and a spread of one ground, all with the same forces."""

    def __init__(self, ground, parts):
        check_parts(parts)
        self.forces = _common_forces(ground, parts)
        self.ground = ground
        self.parts = put_together(parts, [spread for _, spread in parts])

    def margins(self):
        """For each class, the chances of the strength on one of its fields."""
        return [self._margin(at, many) for at, (_, many) in enumerate(self.ground.classes)]

    def _margin(self, at, many):
        numbers = {}
        for share, spread in self.parts:
            for k in spread[at]:
                numbers[k] = numbers.get(k, 0) + share
        ascending = sorted([int(k) for k in numbers])
        return Blend([(numbers[k] * Ratio(1, many), Run.point(k)) for k in ascending])

    def mixed(self, share, other):
        """The plan that is this one with the share and the other with the rest of 1."""
        if self.ground != other.ground:
            raise Mismatch("plans on two grounds")
        if self.forces != other.forces:
            raise Mismatch("plans with unlike forces")
        return Plan(self.ground, mixed_parts(share, self.parts, other.parts))

    def __getitem__(self, at):
        return added([share for share, spread in self.parts if spread == at])

    def __contains__(self, x):
        return any([spread == x for _, spread in self.parts])

    def __len__(self):
        return len(self.parts)

    def __iter__(self):
        return iter(self.parts)


def plan_gain(plan, spread, *, ties=0):
    """What the holder of a plan gets on average against a spread."""
    check_ties(ties)
    plan.ground.total(spread)
    gains = []
    for (worth, _), margin, row in zip(plan.ground.classes, plan.margins(), spread):
        for k in row:
            gains.append(worth * margin.gain(k, ties=ties))
    return added(gains)


def plans_gain(one, other, *, ties=0):
    """What the holder of one plan gets on average against another on the same ground."""
    check_ties(ties)
    if one.ground != other.ground:
        raise Mismatch("plans on two grounds")
    gains = []
    for (worth, many), own, facing in zip(one.ground.classes, one.margins(), other.margins()):
        gains.append(worth * many * meet(own, facing, ties=ties))
    return added(gains)
