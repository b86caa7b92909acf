"""Lines: functions of a strength with one slope."""

from fieldlots.ratio import as_ratio, is_number


class Line:
    """The function start + slope * k."""

    def __init__(self, start, slope):
        self.start = as_ratio(start)
        self.slope = as_ratio(slope)

    def __call__(self, k):
        return self.start + self.slope * k

    def __neg__(self):
        return Line(-self.start, -self.slope)

    def __add__(self, other):
        if not isinstance(other, Line):
            return NotImplemented
        return Line(self.start + other.start, self.slope + other.slope)

    def __sub__(self, other):
        if not isinstance(other, Line):
            return NotImplemented
        return Line(self.start - other.start, self.slope - other.slope)

    def __mul__(self, other):
        if not is_number(other):
            return NotImplemented
        return Line(self.start * other, self.slope * other)

    def __rmul__(self, other):
        if not is_number(other):
            return NotImplemented
        return Line(other * self.start, other * self.slope)

    def __eq__(self, other):
        return isinstance(other, Line) and self.start == other.start and self.slope == other.slope
