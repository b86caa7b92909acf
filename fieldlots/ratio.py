"""Exact fractions."""

from math import gcd

from fieldlots.errors import BadNumber, ZeroUnder

MOST_POWER = 64


def is_number(value):
    """True for a whole number and for a Ratio."""
    return isinstance(value, int) or isinstance(value, Ratio)


def as_ratio(number):
    """The Ratio of a number."""
    if isinstance(number, Ratio):
        return number
    return Ratio(number)


def added(numbers):
    """The sum of a list of numbers, a Ratio even if the list is empty."""
    total = Ratio(0)
    for number in numbers:
        total = total + number
    return total


def _top_of(number):
    return number.top if isinstance(number, Ratio) else number


def _under_of(number):
    return number.under if isinstance(number, Ratio) else 1


def _rounded_quotient(number, divisor):
    """The quotient of two numbers, rounded down."""
    under = _under_of(number) * _top_of(divisor)
    if under == 0:
        raise ZeroUnder("the divisor is 0")
    return _top_of(number) * _under_of(divisor) // under


def _remainder(number, divisor):
    """What the rounded quotient times the divisor leaves of the number."""
    return number - divisor * as_ratio(_rounded_quotient(number, divisor))


class Ratio:
    """A fraction in lowest terms, with a whole number above 0 under the line."""

    def __init__(self, top, under=1):
        if under == 0:
            raise ZeroUnder("a fraction with 0 under the line")
        shared = gcd(top, under)
        if under < 0:
            shared = -shared
        self.top = top // shared
        self.under = under // shared

    @property
    def whole(self):
        """True if the value is a whole number."""
        return self.under == 1

    def floor(self):
        """The value rounded down."""
        return self.top // self.under

    def ceiling(self):
        """The value rounded up."""
        return -(-self.top // self.under)

    def over(self, number):
        """The quotient of this and the number."""
        return Ratio(self.top * _under_of(number), self.under * _top_of(number))

    def power(self, n):
        """This, n times as a factor, for n from 0 to 64."""
        if not isinstance(n, int) or not 0 <= n <= MOST_POWER:
            raise BadNumber("power", n)
        top = 1
        under = 1
        for _ in range(n):
            top = top * self.top
            under = under * self.under
        return Ratio(top, under)

    def __str__(self):
        if self.under == 1:
            return str(self.top)
        return f"{self.top}/{self.under}"

    def __bool__(self):
        return bool(self.top)

    def __neg__(self):
        return Ratio(-self.top, self.under)

    def __abs__(self):
        return Ratio(abs(self.top), self.under)

    def __add__(self, other):
        if not is_number(other):
            return NotImplemented
        top = self.top * _under_of(other) + _top_of(other) * self.under
        return Ratio(top, self.under * _under_of(other))

    def __radd__(self, other):
        if not is_number(other):
            return NotImplemented
        return as_ratio(other) + self

    def __sub__(self, other):
        if not is_number(other):
            return NotImplemented
        top = self.top * _under_of(other) - _top_of(other) * self.under
        return Ratio(top, self.under * _under_of(other))

    def __rsub__(self, other):
        if not is_number(other):
            return NotImplemented
        return as_ratio(other) - self

    def __mul__(self, other):
        if not is_number(other):
            return NotImplemented
        return Ratio(self.top * _top_of(other), self.under * _under_of(other))

    def __rmul__(self, other):
        if not is_number(other):
            return NotImplemented
        return as_ratio(other) * self

    def __floordiv__(self, other):
        if not is_number(other):
            return NotImplemented
        return _rounded_quotient(self, other)

    def __rfloordiv__(self, other):
        if not is_number(other):
            return NotImplemented
        return _rounded_quotient(other, self)

    def __mod__(self, other):
        if not is_number(other):
            return NotImplemented
        return _remainder(self, other)

    def __rmod__(self, other):
        if not is_number(other):
            return NotImplemented
        return _remainder(other, self)

    def __pow__(self, other):
        return self.power(other)

    def __eq__(self, other):
        if isinstance(other, Ratio):
            return self.top == other.top and self.under == other.under
        return isinstance(other, int) and self.under == 1 and self.top == other

    def __lt__(self, other):
        if not is_number(other):
            return NotImplemented
        return self.top * _under_of(other) < _top_of(other) * self.under

    def __le__(self, other):
        if not is_number(other):
            return NotImplemented
        return self.top * _under_of(other) <= _top_of(other) * self.under

    def __gt__(self, other):
        if not is_number(other):
            return NotImplemented
        return self.top * _under_of(other) > _top_of(other) * self.under

    def __ge__(self, other):
        if not is_number(other):
            return NotImplemented
        return self.top * _under_of(other) >= _top_of(other) * self.under
