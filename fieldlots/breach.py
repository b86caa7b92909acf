"""Claims over all strengths, decided exactly."""

from math import lcm

from fieldlots.checks import check_ties
from fieldlots.stretches import common_under, stretches, weighted, whole_chance, whole_gain


class Excess:
    """By how much a blend's gain is above a line, times a number that makes all of it whole."""

    def __init__(self, blend, line, ties):
        under = lcm(common_under([blend]), line.start.under, line.slope.under)
        self.weights = weighted(blend, under)
        self.ties = ties
        self.start = line.start.top * (under // line.start.under)
        self.slope = line.slope.top * (under // line.slope.under)

    def against(self, k):
        """The excess at strength k."""
        return whole_gain(self.weights, k, self.ties) - self.start - self.slope * k


def _first_in_row(excess, low, high, period):
    """The least of low, low + period, .. up to high with an excess below 0, or None."""
    spare = excess.against(low)
    if spare < 0:
        return low
    # In a stretch each further period takes the same from the excess. Where there is no further one,
    # what is found lies above the end.
    fall = spare - excess.against(low + period)
    if fall <= 0:
        return None
    found = low + period * (spare // fall + 1)
    return None if high is not None and found > high else found


def _first_in_stretch(excess, low, high, period):
    found = None
    for start in range(low, low + period):
        if high is None or start <= high:
            at = _first_in_row(excess, start, high, period)
            if at is not None and (found is None or at < found):
                found = at
    return found


def first_breach(blend, line, *, ties=0):
    """The least strength against which the blend's gain is below the line, or None."""
    check_ties(ties)
    excess = Excess(blend, line, ties)
    for low, high, period in stretches([run for _, run in blend]):
        found = _first_in_stretch(excess, low, high, period)
        if found is not None:
            return found
    return None


def first_difference(one, other):
    """The least strength that has not the same chance in two blends, or None."""
    under = common_under([one, other])
    weights = weighted(one, under) + [(-weight, run) for weight, run in weighted(other, under)]
    for low, high, period in stretches([run for _, run in weights]):
        for k in range(low, low + period):
            if (high is None or k <= high) and whole_chance(weights, k) != 0:
                return k
    return None
