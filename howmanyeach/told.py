"""Rows and pairs of a model that are told, and sizes that are wished."""

from howmanyeach.checks import check_end, check_kind, check_link, check_model
from howmanyeach.errors import InvalidPairs, InvalidRow, InvalidTold, Taken, TooMany, UnknownRow
from howmanyeach.sizes import Sizes, sizes_for
from howmanyeach.trials import Trial
from howmanyeach.values import is_name

MOST_ROWS = 12
MOST_PAIRS = 40


class Told:
    """Told rows of each kind of a model, in a sequence, and told pairs of each link."""

    def __init__(self, model):
        check_model(model)
        self._model = model
        # All three parts are replaced, never changed: trials and copies rely on it.
        self._state = ({kind: [] for kind in model.kinds()}, {link: [] for link in model.links()},
                       Sizes({kind: 0 for kind in model.kinds()}))

    @property
    def model(self):
        """The model of which these rows are."""
        return self._model

    @property
    def wished(self):
        """The Sizes that are wished at least."""
        return self._state[2]

    @wished.setter
    def wished(self, value):
        self.set_wished(value)

    def set_wished(self, sizes):
        """Set the sizes that are wished at least."""
        wished = sizes_for(self._model, sizes)
        self._state = (self._state[0], self._state[1], wished)

    def rows(self, kind):
        """Return the list of the told rows of a kind, in the sequence in which they were added."""
        check_kind(self._model, kind)
        return list(self._state[0][kind])

    def degree(self, link, end, name):
        """Return how many told pairs a told row makes at an end of a link."""
        check_link(self._model, link)
        check_end(end)
        row = (self._model.kind_at(link, end), name)
        if row not in self:
            raise UnknownRow(row)
        place = 0 if end == "near" else 1
        return len([pair for pair in self._state[1][link] if pair[place] == name])

    def add_row(self, row):
        """Add a told row, a tuple of a kind and a name."""
        if not self._is_row(row):
            raise InvalidRow(row)
        if row in self:
            raise Taken(row)
        kind, name = row
        rows, pairs, wished = self._state
        if len(rows[kind]) >= MOST_ROWS:
            raise TooMany("rows", MOST_ROWS)
        self._state = ({**rows, kind: rows[kind] + [name]}, pairs, wished)

    def drop_row(self, row):
        """Take a told row away, and all its pairs."""
        if row not in self:
            raise UnknownRow(row)
        kind, name = row
        rows, pairs, wished = self._state
        left = {link: [pair for pair in pairs[link] if not self._is_of(link, pair, row)] for link in pairs}
        self._state = ({**rows, kind: [other for other in rows[kind] if other != name]}, left, wished)

    def set_pairs(self, link, pairs):
        """Set all told pairs of a link."""
        check_link(self._model, link)
        if not isinstance(pairs, (list, tuple)):
            raise InvalidPairs(link, None)
        position = self._wrong_position(link, pairs)
        if position is not None:
            raise InvalidPairs(link, position)
        if len(pairs) > MOST_PAIRS:
            raise TooMany("pairs", MOST_PAIRS)
        rows, told, wished = self._state
        self._state = (rows, {**told, link: sorted(pairs)}, wished)

    def copy(self):
        """Return another Told with the same rows, pairs and wishes."""
        twin = Told(self._model)
        twin._state = self._state
        return twin

    def trying(self):
        """Return a context manager that gives this Told, and sets it back at the end."""
        return Trial(self)

    def tried_by(self, deed):
        """Return what a function returns for this Told, which is then as it was."""
        with Trial(self) as told:
            return deed(told)

    def __iadd__(self, row):
        self.add_row(row)
        return self

    def __isub__(self, row):
        self.drop_row(row)
        return self

    def __getitem__(self, link):
        check_link(self._model, link)
        return list(self._state[1][link])

    def __setitem__(self, link, pairs):
        self.set_pairs(link, pairs)

    def __contains__(self, value):
        return self._is_row(value) and value[1] in self._state[0][value[0]]

    def __len__(self):
        return len([name for kind in self._state[0] for name in self._state[0][kind]])

    def __iter__(self):
        raise TypeError("a Told is not iterated over")

    def _is_row(self, value):
        """Tell whether any value is a tuple of a kind of the model and a NAME."""
        return isinstance(value, tuple) and len(value) == 2 and value[0] in self._model and is_name(value[1])

    def _is_of(self, link, pair, row):
        """Tell whether a told pair is one of this row, at either end."""
        near, far = self._model.kind_at(link, "near"), self._model.kind_at(link, "far")
        return row in ((near, pair[0]), (far, pair[1]))

    def _wrong_position(self, link, pairs):
        """Return the first position of what is no pair of told rows or stands earlier, None if there is none."""
        near, far = self._model.kind_at(link, "near"), self._model.kind_at(link, "far")
        seen = {}
        for position, pair in enumerate(pairs):
            if not isinstance(pair, tuple) or len(pair) != 2:
                return position
            if (near, pair[0]) not in self or (far, pair[1]) not in self or pair in seen:
                return position
            seen[pair] = True
        return None


def check_told(value):
    """Raise InvalidTold unless this is a Told."""
    if not isinstance(value, Told):
        raise InvalidTold(value)
