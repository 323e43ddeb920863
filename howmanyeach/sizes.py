"""Sizes: how many rows there are of each kind."""

from howmanyeach.checks import check_count, check_kind
from howmanyeach.errors import InvalidSizes
from howmanyeach.values import is_count, is_name


class Sizes:
    """A COUNT for each of some kinds."""

    def __init__(self, counts):
        if not _are_counts(counts):
            raise InvalidSizes(counts)
        self._counts = {kind: counts[kind] for kind in sorted(counts)}

    @staticmethod
    def of(**counts):
        """Return the Sizes with these COUNTS."""
        return Sizes(counts)

    def kinds(self):
        """Return the sorted list of the kinds."""
        return list(self._counts)

    def counts(self):
        """Return a dict from the kinds to their COUNTS."""
        return {kind: self._counts[kind] for kind in self._counts}

    def is_within(self, other):
        """Tell whether no COUNT is greater than that of the other Sizes."""
        self._check_like(other)
        return all([self._counts[kind] <= other._counts[kind] for kind in self._counts])

    def with_count(self, kind, count):
        """Return the Sizes with another COUNT at a kind."""
        check_kind(self, kind)
        check_count(count)
        return Sizes({**self._counts, kind: count})

    def __getitem__(self, kind):
        check_kind(self, kind)
        return self._counts[kind]

    def __iter__(self):
        raise TypeError("Sizes are not iterated over")

    def __add__(self, other):
        self._check_like(other)
        return Sizes({kind: self._counts[kind] + other._counts[kind] for kind in self._counts})

    def __and__(self, other):
        self._check_like(other)
        return Sizes({kind: min(self._counts[kind], other._counts[kind]) for kind in self._counts})

    def __or__(self, other):
        self._check_like(other)
        return Sizes({kind: max(self._counts[kind], other._counts[kind]) for kind in self._counts})

    def __mul__(self, times):
        check_count(times)
        return Sizes({kind: self._counts[kind] * times for kind in self._counts})

    def __rmul__(self, times):
        return self * times

    def __bool__(self):
        return any([self._counts[kind] > 0 for kind in self._counts])

    def __contains__(self, value):
        return is_name(value) and value in self._counts

    def __len__(self):
        return len(self._counts)

    def __eq__(self, other):
        return isinstance(other, Sizes) and self._counts == other._counts

    def __repr__(self):
        return f"Sizes({self._counts!r})"

    def _check_like(self, other):
        if not isinstance(other, Sizes) or other.kinds() != self.kinds():
            raise InvalidSizes(other)


def sizes_for(model, sizes):
    """Return the Sizes that a Sizes, or a dict, tells for exactly the kinds of a model."""
    told = sizes_by(sizes)
    if told.kinds() != model.kinds():
        raise InvalidSizes(sizes)
    return told


def are_sizes_of(model, value):
    """Tell whether any value is a Sizes, or a dict, of exactly the kinds of a model."""
    if not isinstance(value, Sizes) and not _are_counts(value):
        return False
    return sizes_by(value).kinds() == model.kinds()


def sizes_by(value):
    """Return a Sizes itself, and a dict as a Sizes."""
    return value if isinstance(value, Sizes) else Sizes(value)


def _are_counts(value):
    """Tell whether any value is a dict with an entry, from NAMES to COUNTS."""
    if not isinstance(value, dict) or not value:
        return False
    return all([is_name(kind) and is_count(value[kind]) for kind in value])
