"""Straight tasks: as much of all columns together as the rows' limits allow."""

from fieldlots.checks import check_table
from fieldlots.errors import BadNumber, Mismatch, NoLimit
from fieldlots.ratio import Ratio
from fieldlots.tableau import Tableau


class Packing:
    """The greatest sum of amounts, such amounts, and prices that show that more is not possible."""

    def __init__(self, worth, amounts, prices):
        self.worth = worth
        self.amounts = list(amounts)
        self.prices = list(prices)


def _check_entries(rows, limits):
    if len(limits) != len(rows):
        raise Mismatch("not one limit for each row")
    for row in rows:
        for entry in row:
            if entry < 0:
                raise BadNumber("entry", entry)
    for limit in limits:
        if limit < 1:
            raise BadNumber("limit", limit)
    for column in range(len(rows[0])):
        if all([row[column] == 0 for row in rows]):
            raise NoLimit(column)


def packed(rows, limits):
    """The packing of a task that has been checked."""
    tableau = Tableau(rows, limits)
    tableau.finish()
    width = len(rows[0])
    amounts = [Ratio(0) for _ in range(width)]
    for row, name in enumerate(tableau.row_names):
        if name < width:
            amounts[name] = Ratio(tableau.entries[row][-1], tableau.under)
    prices = [Ratio(0) for _ in rows]
    for column, name in enumerate(tableau.column_names):
        if name >= width:
            prices[name - width] = Ratio(tableau.entries[-1][column], tableau.under)
    return Packing(Ratio(tableau.entries[-1][-1], tableau.under), amounts, prices)


def pack(rows, limits):
    """The amounts of the columns with the greatest sum, so that no row goes beyond its limit."""
    check_table(rows)
    _check_entries(rows, limits)
    return packed(rows, limits)
