"""Fields in a row: prizes for neighbouring fields that one side wins."""

from math import comb

from fieldlots.checks import MOST_FIELDS, check_fields, check_ties
from fieldlots.duels import duel
from fieldlots.errors import BadNumber, Mismatch, NoPlace, TooMany
from fieldlots.grounds import check_forces

MOST_LAYOUTS = 12


def layouts(total, fields):
    """Yields all layouts of so many forces, in descending order."""
    current = [total] + [0 for _ in range(fields - 1)]
    while True:
        yield tuple(current)
        # Behind the last field with forces to give, only the very last one has any.
        at = fields - 2
        while at >= 0 and current[at] == 0:
            at = at - 1
        if at < 0:
            return
        behind = current[fields - 1]
        current[fields - 1] = 0
        current[at] = current[at] - 1
        current[at + 1] = behind + 1


def count_layouts(total, fields):
    """The number of layouts of so many forces."""
    return comb(total + fields - 1, fields - 1)


def _check_prizes(prizes):
    if not prizes:
        raise BadNumber("prizes", 0)
    for prize in prizes:
        if prize < 0:
            raise BadNumber("prize", prize)


def _winner(x, y, ties):
    """1 if the first side wins the field, -1 if the second does, 0 if nobody does."""
    if x == y:
        return ties
    return 1 if x > y else -1


def _stretches(winners):
    """Pairs of the winner and the length of each stretch, those of nobody too."""
    found = []
    for winner in winners:
        if found and found[-1][0] == winner:
            found[-1] = (winner, found[-1][1] + 1)
        else:
            found.append((winner, 1))
    return found


def _paid(one, other, prizes, ties):
    winners = [_winner(x, y, ties) for x, y in zip(one, other)]
    return sum([winner * prizes[min(length, len(prizes)) - 1] for winner, length in _stretches(winners)])


def row_pay(one, other, prizes, *, ties=0):
    """The first side's prizes less the second's."""
    check_ties(ties)
    _check_prizes(prizes)
    if len(one) != len(other):
        raise Mismatch("layouts of unlike lengths")
    return _paid(one, other, prizes, ties)


def least_forces(layout, length, *, ties=0):
    """The least forces that win so many neighbouring fields against the layout, and the first of these fields."""
    check_ties(ties)
    if not 1 <= length <= len(layout):
        raise NoPlace("no such neighbouring fields")
    # Only where a tie pays the other side is it enough to send as much as the layout has.
    costs = [strength + (0 if ties == -1 else 1) for strength in layout]
    forces = sum(costs[:length])
    least = forces
    found = 0
    for at in range(1, len(costs) - length + 1):
        forces = forces - costs[at - 1] + costs[at + length - 1]
        if forces < least:
            least = forces
            found = at
    return least, found


class RowGame:
    """What the first side is sure of, and the shares of all layouts of both sides that make them sure."""

    def __init__(self, worth, parts_one, parts_two):
        self.worth = worth
        self.parts_one = list(parts_one)
        self.parts_two = list(parts_two)


def _side(total, fields):
    """All layouts of a side, if there are not too many."""
    if count_layouts(total, fields) > MOST_LAYOUTS:
        raise TooMany("layouts", MOST_LAYOUTS)
    return list(layouts(total, fields))


def row_game(fields, totals, prizes, *, ties=0):
    """Solves the game in which both sides lay all their forces on fields in a row."""
    check_ties(ties)
    _check_prizes(prizes)
    check_fields(fields, MOST_FIELDS)
    total_one, total_two = totals
    check_forces("total", total_one)
    check_forces("total", total_two)
    side_one = _side(total_one, fields)
    side_two = _side(total_two, fields)
    found = duel([[_paid(one, two, prizes, ties) for two in side_two] for one in side_one])
    return RowGame(found.worth, list(zip(found.shares_one, side_one)), list(zip(found.shares_two, side_two)))
