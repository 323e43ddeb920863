"""Ratios, fractions at least 0, and the spans in which they lie."""

from howmanyeach.errors import InvalidCount, InvalidNumber, InvalidRatio
from howmanyeach.values import is_count, is_integer
from math import gcd


class Ratio:
    """A fraction at least 0, in lowest terms."""

    def __init__(self, top, bottom=1):
        if not is_count(top):
            raise InvalidCount(top)
        if not is_integer(bottom) or bottom < 1:
            raise InvalidNumber(bottom)
        divisor = gcd(top, bottom)
        self._top = top // divisor
        self._bottom = bottom // divisor

    @property
    def top(self):
        """What stands above the stroke."""
        return self._top

    @property
    def bottom(self):
        """What stands below the stroke."""
        return self._bottom

    def over(self, other):
        """Return the quotient of this and the other one, which is above 0."""
        divisor = _ratio_from(other)
        if divisor._top == 0:
            raise InvalidRatio(other)
        return Ratio(self._top * divisor._bottom, self._bottom * divisor._top)

    def is_below(self, other):
        """Tell whether this is less than the other one."""
        bound = _ratio_from(other)
        return self._top * bound._bottom < bound._top * self._bottom

    def is_at_most(self, other):
        """Tell whether this is not greater than the other one."""
        bound = _ratio_from(other)
        return self._top * bound._bottom <= bound._top * self._bottom

    def least_at(self, count):
        """Return the least COUNT that is at least count times this."""
        if not is_count(count):
            raise InvalidCount(count)
        return (count * self._top + self._bottom - 1) // self._bottom

    def most_at(self, count):
        """Return the greatest COUNT that is at most count times this."""
        if not is_count(count):
            raise InvalidCount(count)
        return count * self._top // self._bottom

    def __add__(self, other):
        addend = _ratio_from(other)
        top = self._top * addend._bottom + addend._top * self._bottom
        return Ratio(top, self._bottom * addend._bottom)

    def __radd__(self, other):
        return self + other

    def __mul__(self, other):
        factor = _ratio_from(other)
        return Ratio(self._top * factor._top, self._bottom * factor._bottom)

    def __rmul__(self, other):
        return self * other

    def __bool__(self):
        return bool(self._top > 0)

    def __eq__(self, other):
        return isinstance(other, Ratio) and self._top == other._top and self._bottom == other._bottom

    def __str__(self):
        if self._bottom == 1:
            return str(self._top)
        return f"{self._top}/{self._bottom}"

    def __repr__(self):
        return f"Ratio({self._top}, {self._bottom})"


class Span:
    """The ratios from a low one, which is had or not, up to a high one or without bound."""

    def __init__(self, low, is_had, high):
        if not isinstance(low, Ratio):
            raise InvalidRatio(low)
        if high is not None and (not isinstance(high, Ratio) or high.is_below(low)):
            raise InvalidRatio(high)
        self._low = low
        self._is_had = is_had
        self._high = high

    @property
    def low(self):
        """The Ratio from which on the others lie."""
        return self._low

    @property
    def is_had(self):
        """Whether the low Ratio is in the span itself."""
        return self._is_had

    @property
    def high(self):
        """The greatest Ratio, None if there is no bound."""
        return self._high

    def __contains__(self, value):
        if not isinstance(value, Ratio) and not is_count(value):
            return False
        if self._high is not None and self._high.is_below(value):
            return False
        if self._is_had:
            return self._low.is_at_most(value)
        return self._low.is_below(value)

    def __eq__(self, other):
        return (isinstance(other, Span) and self._low == other._low
                and self._is_had == other._is_had and self._high == other._high)

    def __str__(self):
        ahead = "" if self._is_had else ">"
        high = "*" if self._high is None else str(self._high)
        return f"{ahead}{self._low}..{high}"

    def __repr__(self):
        return f"Span({self._low!r}, {self._is_had}, {self._high!r})"


def _ratio_from(value):
    """Return a Ratio itself, and a COUNT as a Ratio."""
    if isinstance(value, Ratio):
        return value
    if not is_count(value):
        raise InvalidRatio(value)
    return Ratio(value)
