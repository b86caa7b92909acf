"""The game of sums: each side chooses a lot with a told mean."""

from fieldlots.blends import two_runs
from fieldlots.checks import check_ties
from fieldlots.errors import BadNumber
from fieldlots.lines import Line
from fieldlots.ratio import as_ratio
from fieldlots.runs import Run
from fieldlots.verdicts import Verdict


def _exchanged(verdict):
    """The same verdict with the sides exchanged."""
    lots = (verdict.two, verdict.one)
    floors = (verdict.floor_two, verdict.floor_one)
    means = (verdict.mean_two, verdict.mean_one)
    return Verdict(-verdict.worth, lots=lots, floors=floors, means=means, ties=-verdict.ties)


def _far_behind(a, b, m):
    """Ties pay nothing, and b is not above m, the first mean rounded down."""
    more = a - m
    sent = b.over(m)
    scale = m * (m + 1)
    fall = (m + 1 - more).over(scale)
    lots = (
        two_runs(1 - more, Run.odd(m), Run.odd(m + 1)),
        two_runs(1 - sent, Run.point(0), Run.even(m)),
    )
    floor_two = Line((b * (2 * m + 1)).over(scale) - 1, (-b).over(scale))
    return Verdict(1 - b * fall, lots=lots, floors=(Line(1, -fall), floor_two), means=(a, b))


def _side_by_side(a, b, m):
    """Ties pay nothing, and both means lie between m and m + 1 or the first is below 1."""
    more_one = a - m
    more_two = b - m
    slope = as_ratio(-1).over(m + 1)
    lots = (
        two_runs(1 - more_one, Run.even(m), Run.odd(m + 1)),
        two_runs(1 - more_two, Run.even(m), Run.odd(m + 1)),
    )
    floors = (Line(a.over(m + 1), slope), Line(b.over(m + 1), slope))
    return Verdict((a - b).over(m + 1), lots=lots, floors=floors, means=(a, b))


def _ahead_of_ties(a, b, m):
    """Ties pay the second side, and the first has so much more that it never sends nothing."""
    more = 2 * a - m
    sent = (2 * b).over(m - 1)
    fall = (4 * (m - a)).over(m * (m - 1))
    lots = (
        two_runs(1 - more, Run.between(1, m - 1), Run.between(1, m)),
        two_runs(1 - sent, Run.point(0), Run.between(0, m - 1)),
    )
    floors = (Line(1, -fall), Line(2 * sent - 1, (-2 * sent).over(m)))
    return Verdict(1 - b * fall, lots=lots, floors=floors, means=(a, b), ties=-1)


def _behind_ties(a, b, m):
    """Ties pay the second side, and it has enough to meet the first everywhere."""
    sent = (2 * a).over(m + 1)
    more = 2 * b - (m - 1)
    fall = (4 * (m - b)).over(m * (m + 1))
    lots = (
        two_runs(1 - sent, Run.point(0), Run.between(1, m)),
        two_runs(1 - more, Run.between(0, m - 1), Run.between(0, m)),
    )
    floors = (Line(2 * sent - 1, (-2 * sent).over(m)), Line(1, -fall))
    return Verdict(a * fall - 1, lots=lots, floors=floors, means=(a, b), ties=-1)


def _solved(a, b, ties):
    """The verdict on two means that are Ratios."""
    if ties == 1 or ties == 0 and a < b:
        return _exchanged(_solved(b, a, -ties))
    if ties == 0:
        m = a.floor()
        return _far_behind(a, b, m) if m >= 1 and b <= m else _side_by_side(a, b, m)
    top_one = (2 * a).floor()
    top_two = (2 * b).floor()
    if top_one >= top_two + 2:
        return _ahead_of_ties(a, b, top_one)
    return _behind_ties(a, b, top_two + 1)


def solve(mean_one, mean_two, *, ties=0):
    """The verdict on the game in which the lots of the sides have these means."""
    check_ties(ties)
    if mean_one < 0:
        raise BadNumber("mean_one", mean_one)
    if mean_two < 0:
        raise BadNumber("mean_two", mean_two)
    return _solved(as_ratio(mean_one), as_ratio(mean_two), ties)
