"""The game of costs: each side pays for its forces."""

from fieldlots.blends import Blend, two_runs
from fieldlots.checks import check_ties, check_worths
from fieldlots.errors import BadNumber
from fieldlots.lines import Line
from fieldlots.ratio import added, as_ratio
from fieldlots.runs import Run
from fieldlots.verdicts import CostVerdict


def _check_costs(cost_one, cost_two):
    if cost_one <= 0:
        raise BadNumber("cost_one", cost_one)
    if cost_two <= 0:
        raise BadNumber("cost_two", cost_two)


def _told(lots, floors, costs, ties):
    """The verdict with the worth that the first side's lot and line fix."""
    worth = floors[0].start - costs[0] * lots[0].mean
    return CostVerdict(worth, lots=lots, floors=floors, costs=costs, ties=ties)


def _exchanged(verdict):
    """The same verdict with the sides exchanged, the costs too."""
    lots = (verdict.two, verdict.one)
    floors = (verdict.floor_two, verdict.floor_one)
    costs = (verdict.cost_two, verdict.cost_one)
    return CostVerdict(-verdict.worth, lots=lots, floors=floors, costs=costs, ties=-verdict.ties)


def _like_costs(p, q, m):
    """Ties pay nothing, and both sides can pay for m forces a field, but not for one more."""
    floors = (Line(m * q, -q), Line(m * p, -p))
    if m == 0:
        return _told((Blend.point(0), Blend.point(0)), floors, (p, q), 0)
    lots = (
        two_runs(m * (q * (m + 1) - 1), Run.odd(m), Run.even(m)),
        two_runs(m * (p * (m + 1) - 1), Run.odd(m), Run.even(m)),
    )
    return _told(lots, floors, (p, q), 0)


def _cheaper_first(p, q, m):
    """Ties pay nothing, and only the first side can pay for more than m forces a field."""
    one = Blend.point(1)
    if m > 0:
        share = (m + 1) * (1 - q * m)
        one = two_runs(1 - share, Run.odd(m), Run.odd(m + 1))
    sent = p * (m + 1)
    two = two_runs(1 - sent, Run.point(0), Run.even(m))
    floors = (Line(1, -q), Line(p * (2 * m + 1) - 1, -p))
    return _told((one, two), floors, (p, q), 0)


def _enough_for_ties(p, q, n):
    """Ties pay the second side, and the first cannot pay for more than the second can meet."""
    floors = (Line(q * n - 1, -q), Line(1, -p))
    if n == 0:
        return _told((Blend.point(0), Blend.point(0)), floors, (p, q), -1)
    sent = (q * n).over(2)
    kept = (p * n).over(2)
    lots = (
        two_runs(1 - sent, Run.point(0), Run.between(1, n)),
        two_runs(kept, Run.between(0, n - 1), Run.point(n)),
    )
    return _told(lots, floors, (p, q), -1)


def _beyond_ties(p, q, m):
    """Ties pay the second side, and the first can pay for more than m, the most that the second can."""
    one = Blend.point(1)
    if m > 0:
        share = (q * m).over(2)
        one = two_runs(share, Run.between(1, m), Run.point(m + 1))
    sent = (p * (m + 1)).over(2)
    two = two_runs(1 - sent, Run.point(0), Run.between(0, m))
    floors = (Line(1, -q), Line(p * (m + 1) - 1, -p))
    return _told((one, two), floors, (p, q), -1)


def _solved(p, q, ties):
    """The cost verdict on two costs that are Ratios."""
    if ties == 1:
        return _exchanged(_solved(q, p, -1))
    if ties == 0:
        most_one = 1 // p
        most_two = 1 // q
        if most_one < most_two:
            return _exchanged(_solved(q, p, 0))
        return _cheaper_first(p, q, most_two) if most_one > most_two else _like_costs(p, q, most_one)
    most_one = 2 // p
    most_two = 2 // q
    return _enough_for_ties(p, q, most_one) if most_one <= most_two else _beyond_ties(p, q, most_two)


def solve_costs(cost_one, cost_two, *, ties=0):
    """The cost verdict on the game in which a force costs the sides so much."""
    check_ties(ties)
    _check_costs(cost_one, cost_two)
    return _solved(as_ratio(cost_one), as_ratio(cost_two), ties)


class Priced:
    """Unlike fields under one cost of a force for each side."""

    def __init__(self, fields, cost_two):
        self.fields = list(fields)
        self.total_one = added([verdict.mean_one for _, verdict in fields])
        self.total_two = added([verdict.mean_two for _, verdict in fields])
        starts = added([worth * verdict.floor_one.start for worth, verdict in fields])
        self.worth = starts - cost_two * self.total_two


def priced(worths, cost_one, cost_two, *, ties=0):
    """Solves fields of these worths, each by itself, under the same costs of a force."""
    check_ties(ties)
    check_worths(worths)
    _check_costs(cost_one, cost_two)
    p = as_ratio(cost_one)
    q = as_ratio(cost_two)
    fields = [(worth, _solved(p.over(worth), q.over(worth), ties)) for worth in worths]
    return Priced(fields, q)
