"""Runs: evenly spaced strengths, all with the same chance."""

from fieldlots.checks import check_ties
from fieldlots.errors import BadNumber, NoPlace
from fieldlots.ratio import Ratio

MOST_STEP = 4


class Run:
    """The strengths first, first + step, .., count of them."""

    def __init__(self, first, step, count):
        if first < 0:
            raise BadNumber("first", first)
        if not 1 <= step <= MOST_STEP:
            raise BadNumber("step", step)
        if count < 1:
            raise BadNumber("count", count)
        self.first = first
        # One strength has no spacing; with one step for all of them, equal runs look alike.
        self.step = step if count > 1 else 1
        self.count = count

    @classmethod
    def point(cls, k):
        """The one strength k."""
        return cls(k, 1, 1)

    @classmethod
    def odd(cls, m):
        """The first m odd strengths."""
        return cls(1, 2, m)

    @classmethod
    def even(cls, m):
        """The even strengths from 0 to 2 m."""
        return cls(0, 2, m + 1)

    @classmethod
    def between(cls, low, high):
        """All strengths from low to high."""
        return cls(low, 1, high - low + 1)

    @property
    def last(self):
        """The greatest strength."""
        return self.first + self.step * (self.count - 1)

    @property
    def mean(self):
        """The average strength."""
        return Ratio(self.first + self.last, 2)

    def strengths(self):
        """Yields the strengths in ascending order."""
        for at in range(self.count):
            yield self.first + self.step * at

    def parted(self, n):
        """The run of the first n strengths and the run of the others."""
        if not 1 <= n < self.count:
            raise NoPlace("a run is parted behind its first strength at the earliest")
        start = self.first + self.step * n
        return Run(self.first, self.step, n), Run(start, self.step, self.count - n)

    def below(self, k):
        """How many strengths are less than k."""
        if k <= self.first:
            return 0
        if k > self.last:
            return self.count
        return (k - self.first + self.step - 1) // self.step

    def above(self, k):
        """How many strengths are greater than k."""
        return self.count - self.below(k + 1)

    def chance(self, k):
        """The chance of strength k."""
        return Ratio(1, self.count) if k in self else Ratio(0)

    def gain(self, k, *, ties=0):
        """The gain of the run's holder against strength k."""
        check_ties(ties)
        return Ratio(lead(self, k, ties), self.count)

    def __contains__(self, x):
        return self.first <= x <= self.last and (x - self.first) % self.step == 0

    def __getitem__(self, at):
        if not 0 <= at < self.count:
            raise NoPlace("a run has no strength with this index")
        return self.first + self.step * at

    def __iter__(self):
        raise TypeError("take the strengths() of a run")

    def __add__(self, other):
        if not isinstance(other, int):
            return NotImplemented
        return Run(self.first + other, self.step, self.count)

    def __eq__(self, other):
        return (isinstance(other, Run) and self.first == other.first
                and self.step == other.step and self.count == other.count)


def lead(run, k, ties):
    """The sum of what the single strengths of a run get against strength k."""
    greater = run.above(k)
    less = run.below(k)
    return greater - less + ties * (run.count - greater - less)


def _check_floor_sum(many, under, step, start):
    if many < 0:
        raise BadNumber("many", many)
    if under < 1:
        raise BadNumber("under", under)
    if step < 0:
        raise BadNumber("step", step)
    if start < 0:
        raise BadNumber("start", start)


def floor_sum(many, under, step, start):
    """The sum of (step * i + start) // under for i from 0 to many - 1."""
    _check_floor_sum(many, under, step, start)
    total = 0
    while many > 0:
        total = total + many * (many - 1) // 2 * (step // under) + many * (start // under)
        step = step % under
        # What is left counts the grid points below a flat line. Seen from its other end, with
        # rows and columns exchanged, the same points lie below a steep one, as in Euclid's rule.
        reach = step * many + start % under
        many = reach // under
        start = reach % under
        step, under = under, step
    return total


def pairs_above(one, other):
    """The number of pairs of a strength x of one and a strength y of other with x > y."""
    start = one.count - one.above(other.first)
    end = one.count - one.above(other.last)
    # From end on, a strength of one is greater than all of other; before start than none.
    pairs = (one.count - end) * other.count
    if start < end:
        ahead = one[start] - other.first + other.step - 1
        pairs = pairs + floor_sum(end - start, other.step, one.step, ahead)
    return pairs


def pairs_alike(one, other):
    """The number of pairs of a strength x of one and a strength y of other with x == y."""
    return one.count * other.count - pairs_above(one, other) - pairs_above(other, one)


def run_gain(one, other, *, ties=0):
    """The gain of the holder of one run against the holder of another."""
    check_ties(ties)
    greater = pairs_above(one, other)
    less = pairs_above(other, one)
    pairs = one.count * other.count
    return Ratio(greater - less + ties * (pairs - greater - less), pairs)
