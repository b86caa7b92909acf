"""Tables: a blend dealt over fields part by part, at any size."""

from math import lcm

from fieldlots.checks import check_fields
from fieldlots.errors import NoPlace, NotTiled, TooMany
from fieldlots.grounds import Ground
from fieldlots.plans import Plan
from fieldlots.ratio import Ratio

MOST_FIELDS = 60
MOST_ROWS = 64

# The ways in which a field goes through the strengths of a run, row by row. A rising and a falling field have the
# same sum in each row. So have a rising, a shifted and a filling one together, if the count is odd.
RISING = 0
FALLING = 1
SHIFTED = 2
FILLING = 3


def _index_at(way, count, row):
    """The index of the strength that a field with this way has in a row."""
    at = row % count
    half = count // 2
    if way == FALLING:
        return count - 1 - at
    if way == SHIFTED:
        return (at + half) % count
    if way == FILLING:
        return 3 * half - at - (at + half) % count
    return at


def _row_of(way, count, index):
    """The first row in which a field with this way has the strength with the index."""
    half = count // 2
    if way == FALLING:
        return count - 1 - index
    if way == SHIFTED:
        return (index - half) % count
    if way == FILLING:
        # The first half + 1 rows have the even indexes, descending, the others the odd ones.
        return half - index // 2 if index % 2 == 0 else 2 * half - index // 2
    return index


def _ways(many):
    """The ways of so many fields of one part."""
    if many % 2 == 0:
        return [RISING, FALLING] * (many // 2)
    if many == 1:
        return [RISING]
    return [RISING, SHIFTED, FILLING] + [RISING, FALLING] * ((many - 3) // 2)


def _tiles(run, many):
    """True if the run fits into so many fields, which need not be a whole number."""
    if not many.whole:
        return False
    return run.count == 1 or many > 1 and many.top * (run.count - 1) % 2 == 0


def _first_misfit(blend, fields):
    """The index of the first part that does not fit, or None."""
    for at, (share, run) in enumerate(blend):
        if not _tiles(run, share * fields):
            return at
    return None


def _seats(blend, fields):
    """For each field, its run and its way through it."""
    found = []
    for share, run in blend:
        many = share * fields
        for way in _ways(many.top):
            found.append((run, way))
    return found


class Table:
    """Rows of strengths, one for each field, that deal a blend with the same forces in each row."""

    def __init__(self, blend, fields):
        check_fields(fields, MOST_FIELDS)
        misfit = _first_misfit(blend, fields)
        if misfit is not None:
            raise NotTiled(misfit)
        self._seats = _seats(blend, fields)
        self.height = 1
        for _, run in blend:
            self.height = lcm(self.height, run.count)
        forces = fields * blend.mean
        self.forces = forces.top

    @staticmethod
    def fits(blend, fields):
        """True if all parts of the blend fit into so many fields."""
        return _first_misfit(blend, fields) is None

    def where(self, field, strength):
        """The least row in which the field has the strength, or None."""
        if not 0 <= field < len(self._seats):
            raise NoPlace("no field with this index")
        run, way = self._seats[field]
        if strength not in run:
            return None
        return _row_of(way, run.count, (strength - run.first) // run.step)

    def plan(self):
        """The plan that deals all rows with the same share."""
        if self.height > MOST_ROWS:
            raise TooMany("rows", MOST_ROWS)
        if len(self) > Ground.MOST_FIELDS:
            raise TooMany("fields", Ground.MOST_FIELDS)
        if self.forces > Ground.MOST_FORCES:
            raise TooMany("forces", Ground.MOST_FORCES)
        share = Ratio(1, self.height)
        rows = [sorted([int(k) for k in self[at]], reverse=True) for at in range(self.height)]
        return Plan(Ground.plain(len(self)), [(share, (tuple(row),)) for row in rows])

    def __len__(self):
        return len(self._seats)

    def __getitem__(self, at):
        if not 0 <= at < self.height:
            raise NoPlace("no row with this index")
        return tuple([run[_index_at(way, run.count, at)] for run, way in self._seats])

    def __iter__(self):
        raise TypeError("take the rows of a table by their indexes")
