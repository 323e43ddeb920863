"""Sizes that are let: which are, the least ones above told sizes, the greatest ones within a room."""

from howmanyeach.checks import check_count, check_kind, check_model
from howmanyeach.lines import LINES, check_let, gap_of, is_line_true, spared_by
from howmanyeach.rings import check_full, empty_kinds
from howmanyeach.rising import line_asks, rise
from howmanyeach.roads import Roads
from howmanyeach.sizes import Sizes, sizes_for
from howmanyeach.tables import totals
from howmanyeach.values import is_count, is_name


def is_let(model, sizes):
    """Tell whether some database that keeps the model has these sizes."""
    return first_gap(model, sizes) is None


def first_gap(model, sizes):
    """Return a tuple (link, line) of the first line that is not true, None if the sizes are let."""
    check_model(model)
    return gap_of(model, sizes_for(model, sizes))


def totals_of(model, sizes):
    """Return a dict from the links to tuples of their least and their greatest total."""
    check_model(model)
    told = sizes_for(model, sizes)
    check_let(model, told)
    return {link: totals(told[near], near_many, told[far], far_many)
            for link, (near, near_many, far, far_many) in model.links().items()}


def least_sizes(model, sizes):
    """Return the least Sizes that are let and at least as great as these."""
    check_model(model)
    told = sizes_for(model, sizes)
    check_told_full(model, told)
    counts = told.counts()
    rise(line_asks(model), counts)
    return Sizes(counts)


def raises_for(model, sizes):
    """Return the list of the raises (link, line, size) that lead to the least sizes."""
    check_model(model)
    told = sizes_for(model, sizes)
    check_told_full(model, told)
    return [_told_raise(ask, size) for ask, size in rise(line_asks(model), told.counts())]


def raise_paper(model, sizes, kind, number):
    """Return a paper that shows that there are at least so many of the kind, None if there is none."""
    told = _told_ahead_of_paper(model, sizes, kind, number)
    if told[kind] >= number:
        return []
    paper = []
    for ask, size in rise(line_asks(model), told.counts()):
        paper.append(_told_raise(ask, size))
        if ask.kind == kind and size >= number:
            return paper
    return None


def is_raise_paper(model, sizes, kind, number, value):
    """Tell whether any value is a paper that shows that there are at least so many of the kind."""
    told = _told_ahead_of_paper(model, sizes, kind, number)
    if not isinstance(value, (list, tuple)):
        return False
    counts = told.counts()
    asks = {ask.mark: ask for ask in line_asks(model)}
    for entry in value:
        if not _is_raise(entry) or (entry[0], entry[1]) not in asks:
            return False
        ask = asks[(entry[0], entry[1])]
        if not counts[ask.kind] < entry[2] <= ask.asked(counts):
            return False
        counts[ask.kind] = entry[2]
    return counts[kind] >= number


def greatest_sizes(model, room):
    """Return the greatest Sizes that are let and at most as great as the room."""
    check_model(model)
    counts = sizes_for(model, room).counts()
    _lower(model, counts)
    return Sizes(counts)


def lowerings_for(model, room):
    """Return the list of the lowerings that lead to the greatest sizes within a room."""
    check_model(model)
    return _lower(model, sizes_for(model, room).counts())


def check_told_full(model, sizes):
    """Raise Empty for the first empty kind, sorted, that is told above 0."""
    roads = Roads(model)
    for kind in model.kinds():
        if sizes[kind]:
            check_full(roads, kind)


def _told_ahead_of_paper(model, sizes, kind, number):
    check_model(model)
    told = sizes_for(model, sizes)
    check_kind(model, kind)
    check_count(number)
    check_told_full(model, told)
    return told


def _told_raise(ask, size):
    link, line = ask.mark
    return (link, line, size)


def _is_raise(value):
    """Tell whether any value has the form of a raise."""
    if not isinstance(value, tuple) or len(value) != 3:
        return False
    return is_name(value[0]) and is_count(value[1]) and is_count(value[2])


def _lower(model, counts):
    """Lower the counts, a dict that changes, until they are let; return the list of the lowerings."""
    lowerings = []
    for kind in empty_kinds(model):
        if counts[kind]:
            counts[kind] = 0
            lowerings.append((None, kind, 0))
    links = model.links()
    is_still = False
    while not is_still:
        is_still = True
        for link in links:
            for line in LINES:
                if _lower_by(link, line, links[link], counts, lowerings):
                    is_still = False
    return lowerings


def _lower_by(link, line, ends, counts, lowerings):
    """Lower the size that a line does not let, and tell it; tell whether there was one."""
    near, near_many, far, far_many = ends
    if is_line_true(line, counts[near], near_many, counts[far], far_many):
        return False
    kind = near if line in (0, 2) else far
    counts[kind] = spared_by(line, counts[near], near_many, counts[far], far_many)
    lowerings.append((link, line, counts[kind]))
    return True
