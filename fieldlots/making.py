"""Making: whether true spreads can deal a blend, and the closed form beside the true game."""

from math import lcm

from fieldlots.checks import check_fields, check_ties
from fieldlots.errors import BadNumber, Mismatch, TooMany
from fieldlots.grounds import Ground
from fieldlots.packing import packed
from fieldlots.plans import Plan
from fieldlots.ratio import Ratio, as_ratio
from fieldlots.sums import solve

MOST_FIELDS = 8
MOST_STRENGTHS = 12
MOST_ROWS = 12


class Making:
    """The greatest share of a blend that rows can deal, such rows, and prices that show that more is not possible."""

    def __init__(self, fields, share, parts, prices):
        self.fields = fields
        self.share = share
        self.parts = list(parts)
        self.prices = list(prices)

    def plan(self):
        """The plan of the rows if they deal the whole blend, otherwise None."""
        if self.share != 1:
            return None
        return Plan(Ground.plain(self.fields), [(share, (row,)) for share, row in self.parts])


def _forces(blend, fields):
    """What the rows have to add up to, if it is whole and not too much for a spread."""
    forces = fields * blend.mean
    if not forces.whole:
        raise Mismatch("the strengths of all fields do not add up to a whole number")
    if forces > Ground.MOST_FORCES:
        raise TooMany("forces", Ground.MOST_FORCES)
    return forces.top


def _strengths(blend):
    """The strengths that have a chance, ascending, if there are not too many."""
    found = {}
    for _, run in blend:
        # Such a run has too many by itself, and its strengths may be far too many to list.
        if run.count > MOST_STRENGTHS:
            raise TooMany("strengths", MOST_STRENGTHS)
        for k in run.strengths():
            found[k] = True
    if len(found) > MOST_STRENGTHS:
        raise TooMany("strengths", MOST_STRENGTHS)
    return sorted([int(k) for k in found])


def _count_rows(strengths, fields, forces):
    """The number of rows of so many strengths with this sum."""
    ways = [[0 for _ in range(forces + 1)] for _ in range(fields + 1)]
    ways[0][0] = 1
    for k in strengths:
        # The shorter rows come first, so that they hold the strength already, any number of times.
        for used in range(fields):
            for total in range(forces + 1 - k):
                ways[used + 1][total + k] = ways[used + 1][total + k] + ways[used][total]
    return ways[fields][forces]


def _rows(descending, fields, forces):
    """The rows of so many of these strengths with this sum, the greatest first."""
    if fields == 0:
        return [()] if forces == 0 else []
    if fields * descending[0] < forces or fields * descending[-1] > forces:
        return []
    found = []
    for at, k in enumerate(descending):
        for rest in _rows(descending[at:], fields - 1, forces - k):
            found.append((k,) + rest)
    return found


def make(blend, fields):
    """Deals as much of the blend as possible by rows of strengths, one for each of so many fields."""
    check_fields(fields, MOST_FIELDS)
    forces = _forces(blend, fields)
    strengths = _strengths(blend)
    if _count_rows(strengths, fields, forces) > MOST_ROWS:
        raise TooMany("spreads", MOST_ROWS)
    rows = _rows(strengths[::-1], fields, forces)
    numbers = [fields * blend[k] for k in strengths]
    under = 1
    for number in numbers:
        under = lcm(under, number.under)
    # A straight task has whole limits, so it deals the shares times `under`.
    limits = [number.top * (under // number.under) for number in numbers]
    found = packed([[row.count(k) for row in rows] for k in strengths], limits)
    parts = [(amount * Ratio(1, under), row) for amount, row in zip(found.amounts, rows) if amount > 0]
    return Making(fields, found.worth * Ratio(1, under), parts, list(zip(strengths, found.prices)))


class Bridge:
    """The closed form for the means of both sides, and how far true spreads can deal its blends."""

    def __init__(self, verdict, making_one, making_two):
        self.verdict = verdict
        self.making_one = making_one
        self.making_two = making_two

    @property
    def low(self):
        """What the first side is sure of in the true game if its blend can be dealt, otherwise None."""
        if self.making_one.share != 1:
            return None
        return self.making_one.fields * self.verdict.worth

    @property
    def high(self):
        """What the second side has to pay at most in the true game if its blend can be dealt, otherwise None."""
        if self.making_two.share != 1:
            return None
        return self.making_two.fields * self.verdict.worth


def bridge(fields, total_one, total_two, *, ties=0):
    """Puts the closed form beside the true game on so many plain fields."""
    check_ties(ties)
    if fields < 1:
        raise BadNumber("fields", fields)
    if total_one < 0:
        raise BadNumber("total_one", total_one)
    if total_two < 0:
        raise BadNumber("total_two", total_two)
    verdict = solve(as_ratio(total_one).over(fields), as_ratio(total_two).over(fields), ties=ties)
    return Bridge(verdict, make(verdict.one, fields), make(verdict.two, fields))
