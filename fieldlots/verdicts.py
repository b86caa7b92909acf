"""Verdicts: a worth, the lots of both sides, and lines that show that neither can do better."""

from fieldlots.breach import first_breach
from fieldlots.checks import check_ties
from fieldlots.ratio import as_ratio


class Verdict:
    """A verdict on a game of sums."""

    def __init__(self, worth, *, lots, floors, means, ties=0):
        check_ties(ties)
        self.worth = as_ratio(worth)
        self.one, self.two = lots
        self.floor_one, self.floor_two = floors
        mean_one, mean_two = means
        self.mean_one = as_ratio(mean_one)
        self.mean_two = as_ratio(mean_two)
        self.ties = ties

    def lines_hold(self):
        """True if neither line is anywhere above the gain that it bounds."""
        if first_breach(self.one, self.floor_one, ties=self.ties) is not None:
            return False
        return first_breach(self.two, self.floor_two, ties=-self.ties) is None

    def means_fit(self):
        """True if the blends have the told means."""
        return self.one.mean == self.mean_one and self.two.mean == self.mean_two

    def holds(self):
        """True if both sides are sure of the worth."""
        if self.floor_one(self.mean_two) != self.worth or self.floor_two(self.mean_one) != -self.worth:
            return False
        return self.means_fit() and self.lines_hold()

    def rows(self):
        """The worth and the means, written."""
        return [f"worth {self.worth}", f"means {self.mean_one} {self.mean_two}"]


class CostVerdict(Verdict):
    """A verdict on a game of costs."""

    def __init__(self, worth, *, lots, floors, costs, ties=0):
        check_ties(ties)
        one, two = lots
        super().__init__(worth, lots=lots, floors=floors, means=(one.mean, two.mean), ties=ties)
        cost_one, cost_two = costs
        self.cost_one = as_ratio(cost_one)
        self.cost_two = as_ratio(cost_two)

    def holds(self):
        """True if both sides are sure of the worth, less the costs of their forces."""
        if self.floor_one.slope != -self.cost_two or self.floor_two.slope != -self.cost_one:
            return False
        if self.worth != self.floor_one.start - self.cost_one * self.mean_one:
            return False
        if -self.worth != self.floor_two.start - self.cost_two * self.mean_two:
            return False
        return self.means_fit() and self.lines_hold()

    def rows(self):
        """The worth, the means and the costs, written."""
        return super().rows() + [f"costs {self.cost_one} {self.cost_two}"]
