"""Best answers: what blends are sure of against lots with a mean."""

from fieldlots.blends import Blend
from fieldlots.checks import check_ties, check_worths
from fieldlots.errors import BadNumber
from fieldlots.lines import Line
from fieldlots.ratio import Ratio, added, as_ratio
from fieldlots.runs import Run
from fieldlots.stretches import common_under, stretches, weighted, whole_gain


class Answer:
    """The least worth that lots can leave, such lots, and lines that show that less is not possible."""

    def __init__(self, worth, lots, lines):
        self.worth = worth
        self.lots = list(lots)
        self.lines = list(lines)

    @property
    def lot(self):
        """The lot of the first field."""
        return self.lots[0]

    @property
    def line(self):
        """The line of the first field."""
        return self.lines[0]


def _ends(low, high, period):
    """The first and the last period of a stretch; in each row of it, the strengths between lie on a line."""
    if high is None:
        return [low]
    if high - low < 2 * period:
        return list(range(low, high + 1))
    return list(range(low, low + period)) + list(range(high + 1 - period, high + 1))


def _below_chord(left, middle, right):
    """True if the middle one of three points lies below the straight way from left to right."""
    rise_before = (middle[1] - left[1]) * (right[0] - middle[0])
    rise_behind = (right[1] - middle[1]) * (middle[0] - left[0])
    return rise_before < rise_behind


def _lower_hull(points):
    """The corners of the greatest convex function that is above none of the points."""
    hull = []
    for point in points:
        while len(hull) > 1 and not _below_chord(hull[-2], hull[-1], point):
            hull.pop()
        hull.append(point)
    return hull


def _field_hull(worth, blend, under, ties):
    """The corners of what lots can leave the blend by their mean, times under."""
    weights = weighted(blend, under)
    points = []
    for low, high, period in stretches([run for _, run in blend]):
        for k in _ends(low, high, period):
            points.append((k, worth * whole_gain(weights, k, ties)))
    return _lower_hull(points)


def _edge(hull, at):
    """The width and the rise of the way from one corner to the next; level behind the last."""
    if at + 1 == len(hull):
        return 1, 0
    return hull[at + 1][0] - hull[at][0], hull[at + 1][1] - hull[at][1]


def _steepest(hulls, places):
    """The index of the hull that falls most steeply from its place, or None if none falls."""
    found = None
    best_width, best_rise = 1, 0
    for at, hull in enumerate(hulls):
        width, rise = _edge(hull, places[at])
        if rise * best_width < best_rise * width:
            found = at
            best_width, best_rise = width, rise
    return found


def _descend(hulls, total):
    """Goes down the hulls, each time where it is steepest, as far as the total of the means allows.

    Returns the place on each hull, the hull on which the total ends (None if none falls any more)
    and what is left of the total for the way from its place.
    """
    places = [0 for _ in hulls]
    left = total
    at = _steepest(hulls, places)
    while at is not None:
        width, _ = _edge(hulls[at], places[at])
        if left <= width:
            break
        left = left - width
        places[at] = places[at] + 1
        at = _steepest(hulls, places)
    return places, at, left


def _lot_between(low, high, mean):
    """The chances over low and high with the mean."""
    share = (mean - low).over(high - low)
    return Blend([(1 - share, Run.point(low)), (share, Run.point(high))])


def _lots(corners, hulls, places, at, left):
    """The lots that stand on the corners, with what is left of the total laid where it costs nothing."""
    lots = [Blend.point(k) for k, _ in corners]
    if at is None:
        # Every corner is at its field's least gain, and so is each strength above it.
        mean = corners[0][0] + left
        low = mean.floor()
        lots[0] = _lot_between(low, low + 1, mean)
    else:
        low, _ = corners[at]
        width, _ = _edge(hulls[at], places[at])
        lots[at] = _lot_between(low, low + width, low + left)
    return lots


def best_over(fields, total, *, ties=0):
    """The least that lots with means that add up to the total leave the blends of the fields."""
    check_ties(ties)
    check_worths([worth for worth, _ in fields])
    if total < 0:
        raise BadNumber("total", total)
    under = common_under([blend for _, blend in fields])
    hulls = [_field_hull(worth, blend, under, ties) for worth, blend in fields]
    places, at, left = _descend(hulls, as_ratio(total))
    corners = [hull[place] for hull, place in zip(hulls, places)]
    slope = Ratio(0)
    if at is not None:
        width, rise = _edge(hulls[at], places[at])
        slope = Ratio(rise, width * under)
    lines = [Line(Ratio(gain, under) - slope * k, slope) for k, gain in corners]
    worth = added([line.start for line in lines]) + slope * total
    return Answer(worth, _lots(corners, hulls, places, at, left), lines)


def best_answer(blend, mean, *, ties=0):
    """The least that any lot with the mean leaves the blend."""
    check_ties(ties)
    if mean < 0:
        raise BadNumber("mean", mean)
    return best_over([(1, blend)], mean, ties=ties)
