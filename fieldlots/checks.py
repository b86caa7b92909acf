"""Checks of arguments that several modules share."""

from fieldlots.errors import BadNumber, Mismatch, TooMany

MOST_FIELDS = 12
MOST_ROWS = 12
MOST_COLUMNS = 12
MOST_WORTH = 1000


def check_ties(ties):
    """Refuses a rule of ties other than -1, 0 and 1."""
    if ties not in (-1, 0, 1):
        raise BadNumber("ties", ties)


def check_worth(worth):
    """Refuses a field's worth out of its bounds."""
    if not 1 <= worth <= MOST_WORTH:
        raise BadNumber("worth", worth)


def check_worths(worths):
    """Refuses too many fields, no field, and a field's worth out of its bounds."""
    if len(worths) > MOST_FIELDS:
        raise TooMany("fields", MOST_FIELDS)
    if not worths:
        raise BadNumber("fields", 0)
    for worth in worths:
        check_worth(worth)


def check_fields(fields, most):
    """Refuses less than one field and more fields than the most."""
    if fields < 1:
        raise BadNumber("fields", fields)
    if fields > most:
        raise TooMany("fields", most)


def check_table(rows):
    """Refuses a table with too few or too many rows or columns, or with rows of unlike lengths."""
    if not rows:
        raise BadNumber("rows", 0)
    if len(rows) > MOST_ROWS:
        raise TooMany("rows", MOST_ROWS)
    width = len(rows[0])
    if width == 0:
        raise BadNumber("columns", 0)
    if width > MOST_COLUMNS:
        raise TooMany("columns", MOST_COLUMNS)
    if any([len(row) != width for row in rows]):
        raise Mismatch("rows of unlike lengths")
