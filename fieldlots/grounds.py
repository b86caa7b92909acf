"""Grounds: classes of like fields, and the spreads of forces over them."""

from fieldlots.checks import check_ties, check_worth
from fieldlots.errors import BadNumber, BadSpread, TooMany
from fieldlots.ratio import Ratio, added

MOST_CLASSES = 4


def check_forces(name, number):
    """Refuses a number of forces that no spread has."""
    if not 0 <= number <= Ground.MOST_FORCES:
        raise BadNumber(name, number)


def _check_classes(classes):
    if not classes:
        raise BadNumber("classes", 0)
    if len(classes) > MOST_CLASSES:
        raise TooMany("classes", MOST_CLASSES)
    for worth, many in classes:
        check_worth(worth)
        if many < 1:
            raise BadNumber("many", many)
    if sum([many for _, many in classes]) > Ground.MOST_FIELDS:
        raise TooMany("fields", Ground.MOST_FIELDS)


def _is_row(row, many):
    """True if the tuple has one strength for each of so many fields, in descending order."""
    if len(row) != many or row[-1] < 0:
        return False
    return all([greater >= less for greater, less in zip(row, row[1:])])


def _rows_within(many, most, low, high):
    """Yields the rows of so many fields, no strength above most, with a sum from low to high, the greatest first."""
    if many == 0:
        yield ()
        return
    # Below this strength the others, none of them greater, would not reach the sum.
    least = max(0, (low + many - 1) // many)
    behind = many - 1
    for first in range(min(int(most), high), least - 1, -1):
        rest_low = low - first
        rest_high = high - first
        for rest in _rows_within(behind, first, rest_low, rest_high):
            yield (first,) + rest


def _spreads_from(sizes, forces):
    """Yields the spreads of the forces over classes of these sizes, the greatest first."""
    many = sizes[0]
    behind = sizes[1:]
    # Only the last class has to take what is left.
    low = 0 if behind else forces
    for row in _rows_within(many, forces, low, forces):
        if behind:
            kept = forces - sum(row)
            for rest in _spreads_from(behind, kept):
                yield (row,) + rest
        else:
            yield (row,)


class Ground:
    """Classes of like fields, pairs of the worth of each field and the number of fields."""

    MOST_FIELDS = 12
    MOST_FORCES = 40

    def __init__(self, *classes):
        _check_classes(classes)
        self.classes = list(classes)
        self.fields = sum([many for _, many in classes])

    @classmethod
    def plain(cls, fields):
        """So many fields of worth 1."""
        return cls((1, fields))

    def total(self, spread):
        """The forces of a spread on this ground."""
        if len(spread) != len(self.classes):
            raise BadSpread("not one tuple for each class")
        for row, (_, many) in zip(spread, self.classes):
            if not _is_row(row, many):
                raise BadSpread("not one strength for each field of a class, in descending order")
        forces = sum([sum(row) for row in spread])
        if forces > Ground.MOST_FORCES:
            raise BadSpread("more forces than a spread has")
        return forces

    def spreads(self, total):
        """Yields all spreads of so many forces, in descending order."""
        check_forces("total", total)
        sizes = [many for _, many in self.classes]
        yield from _spreads_from(sizes, total)

    def count_spreads(self, total):
        """The number of spreads of so many forces."""
        check_forces("total", total)
        ways = [1] + [0 for _ in range(total)]
        # A row of so many strengths, seen from its side, is a sum of numbers up to that many.
        for _, many in self.classes:
            for size in range(1, many + 1):
                for forces in range(size, total + 1):
                    ways[forces] = ways[forces] + ways[forces - size]
        return ways[total]

    def __eq__(self, other):
        return isinstance(other, Ground) and self.classes == other.classes


def _pairs_gain(row, facing, ties):
    """The sum of what the strengths of one row get against those of another, in all pairs."""
    total = 0
    for x in row:
        for y in facing:
            if x == y:
                total = total + ties
            else:
                total = total + (1 if x > y else -1)
    return total


def spread_gain(ground, one, other, *, ties=0):
    """What the holder of one spread gets on average against another."""
    check_ties(ties)
    ground.total(one)
    ground.total(other)
    gains = []
    for (worth, many), row, facing in zip(ground.classes, one, other):
        gains.append(Ratio(worth * _pairs_gain(row, facing, ties), many))
    return added(gains)
