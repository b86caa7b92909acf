"""Duels: games in which one side picks a row of a table and the other a column."""

from math import lcm

from fieldlots.checks import check_table
from fieldlots.packing import packed
from fieldlots.ratio import Ratio, as_ratio


class Duel:
    """What the first side is sure of, and the shares of the rows and of the columns that make both sides sure."""

    def __init__(self, worth, shares_one, shares_two):
        self.worth = worth
        self.shares_one = list(shares_one)
        self.shares_two = list(shares_two)


def _row_under(row):
    """A whole number that makes all entries of the row whole when they are multiplied by it."""
    under = 1
    for entry in row:
        under = lcm(under, as_ratio(entry).under)
    return under


def _whole_row(row, lift, under):
    """The entries, each raised by lift, times under."""
    numbers = [as_ratio(entry) for entry in row]
    return [(number.top + lift * number.under) * (under // number.under) for number in numbers]


def duel(rows):
    """Solves the table: rows of what the second side pays to the first."""
    check_table(rows)
    # With all entries raised to 1 or more, shares divided by the worth are the amounts and prices of a task.
    lift = 1 - min([int(as_ratio(entry).floor()) for row in rows for entry in row])
    unders = [_row_under(row) for row in rows]
    # Each row has its own multiple, for which its limit makes up: one for all would be far longer.
    found = packed([_whole_row(row, lift, under) for row, under in zip(rows, unders)], unders)
    lifted = Ratio(1).over(found.worth)
    shares_one = [price * under * lifted for price, under in zip(found.prices, unders)]
    shares_two = [amount * lifted for amount in found.amounts]
    return Duel(lifted - lift, shares_one, shares_two)


def _row_yields(rows, columns, other, row):
    """True if the other row makes the row needless in these columns."""
    if all([rows[other][column] == rows[row][column] for column in columns]):
        return other < row
    return all([rows[other][column] >= rows[row][column] for column in columns])


def _column_yields(rows, kept, other, column):
    """True if the other column makes the column needless in the rows that are kept."""
    if all([rows[row][other] == rows[row][column] for row in kept]):
        return other < column
    return all([rows[row][other] <= rows[row][column] for row in kept])


def _needless_row(rows, kept, columns):
    """The last needless row, or None."""
    for row in kept[::-1]:
        if any([other != row and _row_yields(rows, columns, other, row) for other in kept]):
            return row
    return None


def _needless_column(rows, kept, columns):
    """The last needless column, or None."""
    for column in columns[::-1]:
        if any([other != column and _column_yields(rows, kept, other, column) for other in columns]):
            return column
    return None


def _reduced(rows, kept, columns):
    """The rows and columns without the next needless one, or None if nothing is needless."""
    row = _needless_row(rows, kept, columns)
    if row is not None:
        return [at for at in kept if at != row], columns
    column = _needless_column(rows, kept, columns)
    if column is not None:
        return kept, [at for at in columns if at != column]
    return None


def shrink(rows):
    """The indexes of the rows and of the columns that stay when needless ones are dropped one by one."""
    check_table(rows)
    kept = list(range(len(rows)))
    columns = list(range(len(rows[0])))
    reduced = _reduced(rows, kept, columns)
    while reduced is not None:
        kept, columns = reduced
        reduced = _reduced(rows, kept, columns)
    return kept, columns
