"""Runs cut into stretches, so that a few strengths of each stand for all of them.

Chances and gains are whole numbers here: all of them times one number, `under`.
"""

from math import lcm

from fieldlots.runs import lead


def common_under(blends):
    """A whole number that makes all chances and gains of the blends whole when they are multiplied by it."""
    under = 1
    for blend in blends:
        for share, run in blend:
            under = lcm(under, share.under * run.count)
    return under


def weighted(blend, under):
    """Pairs of the chance of each strength of a run, times under, and the run."""
    return [(share.top * (under // (share.under * run.count)), run) for share, run in blend]


def whole_chance(weights, k):
    """The chance of strength k, times under."""
    return sum([weight for weight, run in weights if k in run])


def whole_gain(weights, k, ties):
    """The gain against strength k, times under."""
    return sum([weight * lead(run, k, ties) for weight, run in weights])


def _period(runs, k):
    """After how many strengths the runs that reach over k look alike again."""
    period = 1
    for run in runs:
        if run.first <= k <= run.last:
            period = lcm(period, run.step)
    return period


def stretches(runs):
    """Triples of low, high and a period that cover all strengths, ascending; the last high is None.

    From one strength of a stretch to that a period above it, as far as the stretch goes, no chance
    changes, and each gain changes by the same amount.
    """
    marks = [0]
    for run in runs:
        marks.append(run.first)
        marks.append(run.last + 1)
    marks = sorted([int(mark) for mark in marks])
    found = []
    for low, after in zip(marks, marks[1:]):
        if low < after:
            found.append((low, after - 1, _period(runs, low)))
    found.append((marks[-1], None, 1))
    return found
