"""Manys: which numbers of partners are let."""

from howmanyeach.errors import Apart, InvalidCount, InvalidMany, InvalidText
from howmanyeach.values import is_count, number_in


class Many:
    """The numbers from a least one to a most one, or all from the least one on."""

    TOP = 6

    def __init__(self, least, most=None):
        if not is_count(least):
            raise InvalidCount(least)
        if most is not None and not is_count(most):
            raise InvalidCount(most)
        if not _is_up_to(least, most):
            raise InvalidMany((least, most))
        self._least = least
        self._most = most
        # No most number comes behind each one.
        self._key = (least, most is None, most or 0)

    @property
    def least(self):
        """The least number that is let."""
        return self._least

    @property
    def most(self):
        """The most number that is let, None if there is none."""
        return self._most

    @staticmethod
    def just(number):
        """Return the Many that lets just this number."""
        return Many(number, number)

    @staticmethod
    def read(text):
        """Return the Many with this text."""
        if not isinstance(text, str):
            raise InvalidText(1)
        start, dots, end = text.partition("..")
        least = number_in(start)
        if least is None:
            raise InvalidText(1)
        if not dots:
            return Many(least, least)
        if end == "*":
            return Many(least)
        most = number_in(end)
        if most is None or most <= least:
            raise InvalidText(1)
        return Many(least, most)

    def is_within(self, other):
        """Tell whether the other Many lets each number that this one lets."""
        if not isinstance(other, Many):
            raise InvalidMany(other)
        return other._least <= self._least and _is_up_to(self._most, other._most)

    def __contains__(self, value):
        return is_count(value) and self._least <= value and _is_up_to(value, self._most)

    def __and__(self, other):
        if not isinstance(other, Many):
            raise InvalidMany(other)
        least = other._least if self._least <= other._least else self._least
        most = self._most if _is_up_to(self._most, other._most) else other._most
        if not _is_up_to(least, most):
            raise Apart(self, other)
        return Many(least, most)

    def __or__(self, other):
        if not isinstance(other, Many):
            raise InvalidMany(other)
        least = self._least if self._least <= other._least else other._least
        most = other._most if _is_up_to(self._most, other._most) else self._most
        return Many(least, most)

    def __add__(self, other):
        if not isinstance(other, Many):
            raise InvalidMany(other)
        return Many(self._least + other._least, _most_of_sum(self._most, other._most))

    def __mul__(self, other):
        if is_count(other):
            return self * Many(other, other)
        if not isinstance(other, Many):
            raise InvalidMany(other)
        return Many(self._least * other._least, _most_of_product(self._most, other._most))

    def __rmul__(self, other):
        return self * other

    def __bool__(self):
        return self._most is None or bool(self._most > 0)

    def __eq__(self, other):
        return isinstance(other, Many) and self._key == other._key

    def __lt__(self, other):
        if not isinstance(other, Many):
            return NotImplemented
        return self._key < other._key

    def __le__(self, other):
        if not isinstance(other, Many):
            return NotImplemented
        return self._key <= other._key

    def __gt__(self, other):
        if not isinstance(other, Many):
            return NotImplemented
        return self._key > other._key

    def __ge__(self, other):
        if not isinstance(other, Many):
            return NotImplemented
        return self._key >= other._key

    def __str__(self):
        if self._most is None:
            return f"{self._least}..*"
        if self._most == self._least:
            return str(self._least)
        return f"{self._least}..{self._most}"

    def __repr__(self):
        if self._most is None:
            return f"Many({self._least})"
        return f"Many({self._least}, {self._most})"


def _is_up_to(number, most):
    """Tell whether a number, or none, does not go past a most number, or none."""
    return most is None or (number is not None and number <= most)


def _most_of_sum(one, other):
    """Return the sum of two most numbers, None standing for none."""
    if one is None or other is None:
        return None
    return one + other


def _most_of_product(one, other):
    """Return the product of two most numbers, None standing for none."""
    # Nothing can be linked through 0 partners, however many there are beyond.
    if one == 0 or other == 0:
        return 0
    if one is None or other is None:
        return None
    return one * other
