"""Straight tasks solved by exchanging rows and columns, in whole numbers alone."""


class Tableau:
    """What the amounts that are 0 now do to the other amounts, the spares of the rows, and the sum of the amounts.

    All entries stand over one number, `under`. Each is a determinant of entries of the task, so the division
    in an exchange leaves nothing over, and no entry grows longer than such a determinant. The last column has
    the values, the last row the prices. Amounts have the names 0, 1, .., behind them come the spares.
    """

    def __init__(self, rows, limits):
        width = len(rows[0])
        self.entries = [list(row) + [limit] for row, limit in zip(rows, limits)] + [[-1 for _ in range(width)] + [0]]
        self.under = 1
        self.column_names = list(range(width))
        self.row_names = list(range(width, width + len(rows)))

    def rising(self):
        """The column with the least name of which more raises the sum, or None."""
        found = None
        for at, name in enumerate(self.column_names):
            if self.entries[-1][at] < 0 and (found is None or name < self.column_names[found]):
                found = at
        return found

    def _tighter(self, row, other, column):
        """True if the row leaves the column less room than the other, or as much and has the lesser name."""
        own_room = self.entries[row][-1] * self.entries[other][column]
        other_room = self.entries[other][-1] * self.entries[row][column]
        return own_room < other_room or own_room == other_room and self.row_names[row] < self.row_names[other]

    def tightest(self, column):
        """The row that limits the column most."""
        found = None
        for row in range(len(self.row_names)):
            if self.entries[row][column] > 0 and (found is None or self._tighter(row, found, column)):
                found = row
        return found

    def _turned(self, at, row, column):
        """The row with index `at` as it is when the row and the column are exchanged."""
        own = self.entries[at]
        if at == row:
            turned = list(own)
            turned[column] = self.under
            return turned
        pivot = self.entries[row][column]
        factor = own[column]
        turned = [(x * pivot - factor * y) // self.under for x, y in zip(own, self.entries[row])]
        turned[column] = -factor
        return turned

    def exchange(self, row, column):
        """The row's name becomes 0 in place of the column's, which takes what the row leaves it."""
        pivot = self.entries[row][column]
        self.entries = [self._turned(at, row, column) for at in range(len(self.entries))]
        self.under = pivot
        leaving = self.row_names[row]
        self.row_names[row] = self.column_names[column]
        self.column_names[column] = leaving

    def finish(self):
        """Exchanges until nothing raises the sum. The least names come first, so that no state comes twice."""
        column = self.rising()
        while column is not None:
            self.exchange(self.tightest(column), column)
            column = self.rising()
