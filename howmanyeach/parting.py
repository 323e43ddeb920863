"""Rows with so many partners: where they are, and the least database that parts two models by one."""

from howmanyeach.checks import check_comparable, check_count, check_end, check_link, check_model, check_place
from howmanyeach.errors import InvalidCount
from howmanyeach.lines import gap_of
from howmanyeach.normal import numbers_at, places_of
from howmanyeach.rising import RowsAsk, ShareAsk, line_asks, rise
from howmanyeach.roads import Roads
from howmanyeach.sizes import Sizes, sizes_for
from howmanyeach.values import is_count, other_end


def can_have_row(model, sizes, link, end, number):
    """Tell whether some database that keeps the model has these sizes, and a row with so many partners there."""
    check_model(model)
    told = sizes_for(model, sizes)
    check_link(model, link)
    check_end(end)
    check_count(number)
    here, there = model.many_at(link, end), model.many_at(link, other_end(end))
    if number not in here or gap_of(model, told) is not None:
        return False
    rows, others = told[model.kind_at(link, end)], told[model.kind_at(link, other_end(end))]
    if rows < 1 or others < number:
        return False
    if there.most is not None and others * there.most < rows * here.least + number - here.least:
        return False
    if here.most is not None and rows * here.most - (here.most - number) < others * there.least:
        return False
    return rows > there.least or others == number


def least_with(model, link, end, number):
    """Return the least Sizes of a database that keeps the model and has a row with so many partners there."""
    check_place(model, link, end)
    numbers = numbers_at(model, Roads(model), link, end)
    if not is_count(number) or numbers is None or number not in numbers:
        raise InvalidCount(number)
    return _least_with(model, link, end, number)


def parting_of(one, other):
    """Return the parting (link, end, number, sizes) of two comparable models, None if one is below other."""
    check_comparable(one, other)
    roads = Roads(one)
    for link, end in places_of(one):
        numbers = numbers_at(one, roads, link, end)
        number = None if numbers is None else _least_beside(numbers, other.many_at(link, end))
        if number is not None:
            return (link, end, number, _least_with(one, link, end, number))
    return None


def _least_beside(numbers, others):
    """Return the least number that a Many lets and another one does not, None if there is none."""
    if numbers.least not in others:
        return numbers.least
    if others.most is not None and others.most + 1 in numbers:
        return others.most + 1
    return None


def _least_with(model, link, end, number):
    """Return the least Sizes with a row that has so many partners, a number that occurs there."""
    counts = {kind: 0 for kind in model.kinds()}
    counts[model.kind_at(link, end)] = 1
    rise(line_asks(model) + _row_asks(model, link, end, number), counts)
    return Sizes(counts)


def _row_asks(model, link, end, number):
    """Return the asks that come with a row that has so many partners, beside the lines of the model."""
    kind, goal = model.kind_at(link, end), model.kind_at(link, other_end(end))
    here, there = model.many_at(link, end), model.many_at(link, other_end(end))
    asks = [RowsAsk(None, goal, kind, 0, number),
            ShareAsk(None, goal, kind, here.least, there.most, number - here.least),
            # With more rows beyond than its partners, the row is left out by one of them.
            RowsAsk(None, kind, goal, number, there.least + 1)]
    if here.most is not None:
        asks.append(ShareAsk(None, kind, goal, there.least, here.most, here.most - number))
    return asks
