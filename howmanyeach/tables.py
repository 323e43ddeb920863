"""Tables: links that are told by number, without being made."""

from howmanyeach.checks import check_count, check_end
from howmanyeach.errors import InvalidMany, InvalidPair, InvalidRow, InvalidTotal
from howmanyeach.lines import wrong_line
from howmanyeach.manys import Many
from howmanyeach.values import is_count


class Table:
    """So many pairs of near and far rows, as evenly spread as can be at both ends."""

    def __init__(self, near, far, total):
        check_count(near)
        check_count(far)
        if not is_count(total) or total > near * far:
            raise InvalidTotal(total)
        self._near = near
        self._far = far
        self._total = total

    @property
    def near(self):
        """The near size."""
        return self._near

    @property
    def far(self):
        """The far size."""
        return self._far

    @property
    def total(self):
        """The number of the pairs."""
        return self._total

    def __call__(self, number):
        if not is_count(number) or number >= self._total:
            raise InvalidPair(number)
        return (self._near_row_of(number), number % self._far)

    def number_of(self, near, far):
        """Return the number of the pair of these rows, None if they make none."""
        self._check_row("near", near)
        self._check_row("far", far)
        return self._number(near, far)

    def degree(self, end, row):
        """Return how many partners a row has."""
        check_end(end)
        self._check_row(end, row)
        return self._degree(end, row)

    def partner(self, end, row, place):
        """Return the partner of a row at this place."""
        check_end(end)
        self._check_row(end, row)
        if not is_count(place) or place >= self._degree(end, row):
            raise InvalidPair(place)
        return self._partner(end, row, place)

    def each_partner(self, end, row):
        """Yield the partners of a row, in their order."""
        for place in range(self.degree(end, row)):
            yield self._partner(end, row, place)

    def __contains__(self, value):
        if not isinstance(value, tuple) or len(value) != 2:
            return False
        near, far = value
        if not self._is_row("near", near) or not self._is_row("far", far):
            return False
        return self._number(near, far) is not None

    def __eq__(self, other):
        return (isinstance(other, Table) and self._near == other._near
                and self._far == other._far and self._total == other._total)

    def __repr__(self):
        return f"Table({self._near}, {self._far}, {self._total})"

    def _size(self, end):
        return self._near if end == "near" else self._far

    def _is_row(self, end, value):
        return is_count(value) and value < self._size(end)

    def _check_row(self, end, row):
        if not self._is_row(end, row):
            raise InvalidRow(row)

    def _degree(self, end, row):
        size = self._size(end)
        return self._total // size + int(row < self._total % size)

    def _start(self, row):
        """Return the number of the first pair that near rows from this one on have."""
        return row * (self._total // self._near) + min(row, self._total % self._near)

    def _near_row_of(self, number):
        few = self._total // self._near
        rows_with_more = self._total % self._near
        pairs_of_these = rows_with_more * (few + 1)
        if number < pairs_of_these:
            return number // (few + 1)
        return rows_with_more + (number - pairs_of_these) // few

    def _partner(self, end, row, place):
        if end == "near":
            return (self._start(row) + place) % self._far
        return self._near_row_of(row + place * self._far)

    def _number(self, near, far):
        start = self._start(near)
        # The pairs of a near row are at most as many as the far rows, so just one number can do.
        number = start + (far - start) % self._far
        return number if number < self._start(near + 1) else None


def totals(near, near_many, far, far_many):
    """Return a tuple of the least and the greatest total of a link, None if there is none."""
    check_count(near)
    _check_many(near_many)
    check_count(far)
    _check_many(far_many)
    if wrong_line(near, near_many, far, far_many) is not None:
        return None
    least = max(near * near_many.least, far * far_many.least)
    bounds = [near * far]
    if near_many.most is not None:
        bounds.append(near * near_many.most)
    if far_many.most is not None:
        bounds.append(far * far_many.most)
    return (least, min(bounds))


def _check_many(many):
    if not isinstance(many, Many):
        raise InvalidMany(many)
