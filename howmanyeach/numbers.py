"""How many rows a kind can have: the sizes of a kind, and the gaps between them."""

from howmanyeach.checks import check_count, check_kind, check_model
from howmanyeach.errors import TooMany
from howmanyeach.rings import check_full, groups_of
from howmanyeach.rising import line_asks, rise
from howmanyeach.roads import Roads

MOST_GAPS = 300


def unit_of(model, kind):
    """Return the number of which all sizes of the kind are multiples."""
    _check(model, kind)
    return _unit(model, kind)


def is_size(model, kind, number):
    """Tell whether some database that keeps the model has just so many rows of the kind."""
    return size_from(model, kind, number) == number


def size_from(model, kind, number):
    """Return the least size of the kind that is at least this number."""
    _check(model, kind, number)
    return Climb(model, kind).up_to(number)


def gaps_of(model, kind):
    """Return the sorted list of the multiples of the unit that are no sizes of the kind."""
    _check(model, kind)
    return _gaps(model, kind)


def sizes_from(model, kind, number, *, many):
    """Yield so many sizes of the kind, rising, from the least one on that is at least this number."""
    _check(model, kind, number, many)
    unit = _unit(model, kind)
    climb = Climb(model, kind)
    least = number
    for _ in range(many):
        size = climb.up_to(least)
        yield size
        least = size + unit


def many_below(model, kind, number):
    """Return how many sizes of the kind are below this number."""
    _check(model, kind, number)
    gaps = _gaps(model, kind)
    multiples = -(-number // _unit(model, kind))
    return multiples - len([gap for gap in gaps if gap < number])


def size_at(model, kind, place):
    """Return the size of the kind with this place among all, rising, from 0."""
    _check(model, kind, place)
    unit = _unit(model, kind)
    size = place * unit
    for gap in _gaps(model, kind):
        if gap <= size:
            size = size + unit
    return size


class Climb:
    """The least sizes for more and more rows of one kind, which is full."""

    def __init__(self, model, kind):
        self.kind = kind
        self.asks = line_asks(model)
        self.reached = {other: 0 for other in model.kinds()}

    def up_to(self, number):
        """Return the least size that is at least a number, which is never less than the one ahead of it."""
        # The least sizes for fewer rows are below those for more: so they can stay.
        self.reached[self.kind] = number
        rise(self.asks, self.reached)
        return self.reached[self.kind]


def _check(model, kind, *numbers):
    check_model(model)
    check_kind(model, kind)
    for number in numbers:
        check_count(number)
    check_full(Roads(model), kind)


def _unit(model, kind):
    group = [dict(zip(kinds, vector)) for kinds, vector in groups_of(model) if kind in kinds]
    return group[0][kind]


def _gaps(model, kind):
    unit = _unit(model, kind)
    climb = Climb(model, kind)
    first = climb.up_to(1)
    gaps = []
    size = _told_gaps(gaps, 0, first, unit)
    in_a_row = unit
    while in_a_row < first:
        following = _told_gaps(gaps, size, climb.up_to(size + unit), unit)
        in_a_row = in_a_row + unit if following == size + unit else unit
        size = following
    return gaps


def _told_gaps(gaps, size, following, unit):
    """Add the multiples of the unit between two sizes to the list of the gaps; return the second size."""
    if len(gaps) + (following - size) // unit - 1 > MOST_GAPS:
        raise TooMany("gaps", MOST_GAPS)
    gaps.extend(list(range(size + unit, following, unit)))
    return following
