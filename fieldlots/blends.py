"""Blends: runs chosen by shares."""

from fieldlots.checks import check_ties
from fieldlots.errors import BadShares
from fieldlots.ratio import Ratio, added
from fieldlots.runs import Run, run_gain
from fieldlots.shares import check_parts, mixed_parts, put_together


class Blend:
    """Parts, pairs of a share and a run: first a run is chosen, then a strength of it."""

    def __init__(self, parts):
        check_parts(parts)
        self.parts = put_together(parts, [(run.first, run.step, run.count) for _, run in parts])

    @classmethod
    def point(cls, k):
        """The one strength k."""
        return cls([(1, Run.point(k))])

    @classmethod
    def of_run(cls, run):
        """One run with the whole share."""
        return cls([(1, run)])

    @classmethod
    def of_weights(cls, weights):
        """Single strengths, each with its part of the sum of the whole numbers beside them."""
        total = sum([number for _, number in weights])
        if total < 1:
            raise BadShares("the weights add up to less than 1")
        return cls([(Ratio(number, total), Run.point(k)) for k, number in weights])

    @property
    def mean(self):
        """The average strength."""
        return added([share * run.mean for share, run in self.parts])

    @property
    def greatest(self):
        """The greatest strength that has a chance."""
        return max([int(run.last) for _, run in self.parts])

    def mixed(self, share, other):
        """The blend that is this one with the share and the other with the rest of 1."""
        return Blend(mixed_parts(share, self.parts, other.parts))

    def gain(self, k, *, ties=0):
        """The gain of the blend's holder against strength k."""
        check_ties(ties)
        return added([share * run.gain(k, ties=ties) for share, run in self.parts])

    def __getitem__(self, at):
        return added([share * run.chance(at) for share, run in self.parts])

    def __contains__(self, x):
        return any([x in run for _, run in self.parts])

    def __len__(self):
        return len(self.parts)

    def __iter__(self):
        return iter(self.parts)

    def __add__(self, other):
        if not isinstance(other, int):
            return NotImplemented
        return Blend([(share, run + other) for share, run in self.parts])

    def __eq__(self, other):
        return isinstance(other, Blend) and self.parts == other.parts


def meet(one, other, *, ties=0):
    """The gain of the holder of one blend against the holder of another."""
    check_ties(ties)
    gains = []
    for share, run in one:
        for part, facing in other:
            gains.append(share * part * run_gain(run, facing, ties=ties))
    return added(gains)


def two_runs(share, run, other):
    """The blend of one run with the share and another with the rest of 1."""
    return Blend([(share, run), (1 - share, other)])
