"""What ways and rings tell of the kinds: which are empty, and how many rows come to a row."""

from howmanyeach.checks import check_kind, check_model, check_place
from howmanyeach.errors import Empty, EmptyBy
from howmanyeach.leads import goal_by, is_broken, is_ring, is_step, product_of
from howmanyeach.ratios import Ratio, Span
from howmanyeach.roads import Roads
from math import lcm


def is_full(model, kind):
    """Tell whether some database that keeps the model has rows of the kind."""
    return empty_paper(model, kind) is None


def empty_kinds(model):
    """Return the sorted list of the kinds that are not full."""
    check_model(model)
    roads = Roads(model)
    return [kind for kind in model.kinds() if roads.paper_for(kind) is not None]


def empty_paper(model, kind):
    """Return a paper that shows that the kind is empty, None if it is full."""
    check_model(model)
    check_kind(model, kind)
    return Roads(model).paper_for(kind)


def is_empty_paper(model, kind, value):
    """Tell whether any value is a paper that shows that the kind is empty."""
    check_model(model)
    check_kind(model, kind)
    if not isinstance(value, tuple) or len(value) != 2:
        return False
    way, last = value
    goal = goal_by(model, kind, way)
    if goal is None:
        return False
    if is_step(model, last):
        return is_broken(model, last[0], last[1]) and model.kind_at(last[0], last[1]) == goal
    return is_ring(model, goal, last) and Ratio(1).is_below(product_of(model, goal, last))


def check_full(roads, kind):
    """Raise Empty unless the kind is full."""
    paper = roads.paper_for(kind)
    if paper is not None:
        raise Empty(kind, paper) from EmptyBy(paper)


def ratio_of(model, kind, other):
    """Return the Span of how many rows of the other kind come to one row of the kind."""
    roads = _roads_between(model, kind, other)
    if roads.paper_for(other) is not None:
        return Span(Ratio(0), True, Ratio(0))
    low, back = roads.product_to(kind, other), roads.product_to(other, kind)
    is_had = bool(low) or other not in roads.best[kind]
    return Span(low, is_had, Ratio(1).over(back) if back else None)


def greatest_way(model, kind, other):
    """Return a way from the kind to the other one with the greatest product, None if there is no way."""
    ways = _roads_between(model, kind, other).best[kind]
    return ways[other][2] if other in ways else None


def is_stiff(model, link, end):
    """Tell whether there is a stiff step from this end."""
    return stiff_ring(model, link, end) is not None


def stiff_ring(model, link, end):
    """Return a ring with the product 1 that begins with the step from this end, None if it is not stiff."""
    check_place(model, link, end)
    return Roads(model).stiff_ring_by((link, end))


def groups_of(model):
    """Return the sorted list of the groups, each a tuple of its kinds and of their vector."""
    check_model(model)
    roads = Roads(model)
    groups = []
    for kind in model.kinds():
        # Each group is told by its first kind, so the list is sorted as it comes.
        if roads.paper_for(kind) is None and not any([kind in kinds for kinds, vector in groups]):
            groups.append(_group_from(roads, kind))
    return groups


def _roads_between(model, kind, other):
    check_model(model)
    check_kind(model, kind)
    check_kind(model, other)
    roads = Roads(model)
    check_full(roads, kind)
    return roads


def _group_from(roads, kind):
    """Return the group of which this is the first kind."""
    ratios = {}
    for other in sorted(roads.best[kind]):
        # From a full kind ways lead to full ones only, whose rings have products up to 1.
        there, back = roads.product_to(kind, other), roads.product_to(other, kind)
        if there * back == Ratio(1):
            ratios[other] = there
    # The kind itself has the ratio 1. So its number is the least one that makes
    # the others whole, and no divisor is common to all.
    number = 1
    for other in ratios:
        number = lcm(number, ratios[other].bottom)
    return (tuple(ratios), tuple([ratios[other].least_at(number) for other in ratios]))
