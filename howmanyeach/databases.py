"""Databases of a model: rows by number, and pairs of them."""

from howmanyeach.checks import check_end, check_link, check_model
from howmanyeach.errors import Apart, InvalidDatabase, InvalidPairs, InvalidRow, TooMany
from howmanyeach.lines import check_let
from howmanyeach.models import have_same_shape
from howmanyeach.sizes import sizes_for
from howmanyeach.tables import Table, totals
from howmanyeach.values import ENDS, is_count

MOST_ROWS = 100


class Database:
    """So many rows of each kind of a model, and the pairs of each link."""

    def __init__(self, model, sizes, pairs=None):
        check_model(model)
        self._model = model
        self._sizes = sizes_for(model, sizes)
        _check_pairs(model, self._sizes, pairs)
        _check_rows(self._sizes)
        told = {} if pairs is None else pairs
        self._pairs = {link: sorted(told.get(link, [])) for link in model.links()}

    @classmethod
    def of_sizes(cls, model, sizes, *, most=False):
        """Return a database with these sizes that keeps the model, with the fewest, or the most, pairs."""
        check_model(model)
        told = sizes_for(model, sizes)
        check_let(model, told)
        _check_rows(told)
        return cls(model, told, {link: _pairs_of(ends, told, most) for link, ends in model.links().items()})

    @property
    def model(self):
        """The model of which this is a database."""
        return self._model

    def sizes(self):
        """Return a dict from the kinds to their numbers of rows."""
        return self._sizes.counts()

    def pairs(self, link):
        """Return the sorted list of the pairs of a link."""
        check_link(self._model, link)
        return list(self._pairs[link])

    def partners(self, link, end, row):
        """Return the sorted list of the partners of a row at an end of a link."""
        check_link(self._model, link)
        check_end(end)
        if not is_count(row) or row >= self._sizes[self._model.kind_at(link, end)]:
            raise InvalidRow(row)
        if end == "near":
            return [far for near, far in self._pairs[link] if near == row]
        return [near for near, far in self._pairs[link] if far == row]

    def fault(self):
        """Return the first tuple (link, end, row) whose number of partners is not let, None if there is none."""
        for link in self._model.links():
            for end in ENDS:
                many = self._model.many_at(link, end)
                for row, degree in enumerate(self._degrees(link, end)):
                    if degree not in many:
                        return (link, end, row)
        return None

    def keeps(self):
        """Tell whether this keeps its model."""
        return self.fault() is None

    def keeps_of(self, model):
        """Tell whether this keeps another model with the same kinds, links, and kinds at their ends."""
        check_model(model)
        if not have_same_shape(self._model, model):
            raise Apart(self._model, model)
        return Database(model, self._sizes, self._pairs).keeps()

    def __add__(self, other):
        if not isinstance(other, Database) or other._model != self._model:
            raise InvalidDatabase(other)
        return Database(self._model, self._sizes + other._sizes, {
            link: self._pairs[link] + other._behind(link, self._sizes) for link in self._model.links()})

    def __mul__(self, times):
        sizes = self._sizes * times
        # Times can be beyond all that can be gone through, also where there are no rows.
        _check_rows(sizes)
        many = times if self._sizes else 0
        return Database(self._model, sizes, {
            link: [pair for place in range(many) for pair in self._behind(link, self._sizes * place)]
            for link in self._model.links()})

    def __rmul__(self, times):
        return self * times

    def __eq__(self, other):
        return (isinstance(other, Database) and self._model == other._model
                and self._sizes == other._sizes and self._pairs == other._pairs)

    def _degrees(self, link, end):
        """Return the list of how many partners each row has."""
        place = ENDS.index(end)
        degrees = [0] * self._sizes[self._model.kind_at(link, end)]
        for pair in self._pairs[link]:
            degrees[pair[place]] = degrees[pair[place]] + 1
        return degrees

    def _behind(self, link, sizes):
        """Return the pairs of a link with their rows behind so many others."""
        near_ahead = sizes[self._model.kind_at(link, "near")]
        far_ahead = sizes[self._model.kind_at(link, "far")]
        return [(near_ahead + near, far_ahead + far) for near, far in self._pairs[link]]


def _pairs_of(ends, sizes, is_most):
    """Return the pairs of the table that a link has with these sizes, which are let."""
    near, near_many, far, far_many = ends
    least, greatest = totals(sizes[near], near_many, sizes[far], far_many)
    table = Table(sizes[near], sizes[far], greatest if is_most else least)
    return [table(number) for number in range(table.total)]


def _check_rows(sizes):
    if sum(sizes.counts().values()) > MOST_ROWS:
        raise TooMany("rows", MOST_ROWS)


def _check_pairs(model, sizes, pairs):
    if pairs is None:
        return
    if not isinstance(pairs, dict) or not all([model.has_link(link) for link in pairs]):
        raise InvalidPairs(None, None)
    for link in sorted(pairs):
        if not isinstance(pairs[link], (list, tuple)):
            raise InvalidPairs(link, None)
        near, far = sizes[model.kind_at(link, "near")], sizes[model.kind_at(link, "far")]
        position = _wrong_position(pairs[link], near, far)
        if position is not None:
            raise InvalidPairs(link, position)


def _wrong_position(pairs, near, far):
    """Return the first position of what is no pair of rows or stands earlier, None if there is none."""
    seen = {}
    for position, pair in enumerate(pairs):
        if not _is_pair(pair, near, far) or pair in seen:
            return position
        seen[pair] = True
    return None


def _is_pair(value, near, far):
    if not isinstance(value, tuple) or len(value) != 2 or not is_count(value[0]) or not is_count(value[1]):
        return False
    return value[0] < near and value[1] < far
