"""Checks of arguments that several modules share."""

from fieldlots.errors import BadNumber, TooMany

MOST_FIELDS = 12
MOST_WORTH = 1000


def check_ties(ties):
    """Refuses a rule of ties other than -1, 0 and 1."""
    if ties not in (-1, 0, 1):
        raise BadNumber("ties", ties)


def check_worths(worths):
    """Refuses too many fields, no field, and a field's worth out of its bounds."""
    if len(worths) > MOST_FIELDS:
        raise TooMany("fields", MOST_FIELDS)
    if not worths:
        raise BadNumber("fields", 0)
    for worth in worths:
        if not 1 <= worth <= MOST_WORTH:
            raise BadNumber("worth", worth)
