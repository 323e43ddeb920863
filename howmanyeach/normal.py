"""The numbers of partners that occur, and what they tell of two models."""

from howmanyeach.checks import check_comparable, check_model, check_place
from howmanyeach.manys import Many
from howmanyeach.models import Model, have_same_shape
from howmanyeach.rings import check_full, empty_kinds
from howmanyeach.roads import Roads
from howmanyeach.values import ENDS, other_end


def occurring(model, link, end):
    """Return the Many of the numbers of partners that occur at an end of a link."""
    check_place(model, link, end)
    roads = Roads(model)
    check_full(roads, model.kind_at(link, end))
    return numbers_at(model, roads, link, end)


def normal_form(model):
    """Return the model with the Many of the numbers that occur at each end."""
    check_model(model)
    roads = Roads(model)
    return _with_manys(model, [_number_or_none(numbers_at(model, roads, link, end)) for link, end in places_of(model)])


def are_comparable(one, other):
    """Tell whether two models have the same kinds and links, with the same kinds at the ends."""
    check_model(one)
    check_model(other)
    return have_same_shape(one, other)


def are_alike(one, other):
    """Tell whether two comparable models have the same databases."""
    check_comparable(one, other)
    return empty_kinds(one) == empty_kinds(other) and normal_form(one) == normal_form(other)


def is_below(one, other):
    """Tell whether all databases of the first one of two comparable models are databases of the other one."""
    check_comparable(one, other)
    roads = Roads(one)
    for link, end in places_of(one):
        numbers = numbers_at(one, roads, link, end)
        if numbers is not None and not numbers.is_within(other.many_at(link, end)):
            return False
    return True


def idle_numbers(model):
    """Return the sorted list of the numbers (link, end, "least" or "most") that never count."""
    check_model(model)
    found = []
    for link, end in sorted(places_of(model)):
        many = model.many_at(link, end)
        if many.least and are_alike(model, model.with_many(link, end, Many(0, many.most))):
            found.append((link, end, "least"))
        if many.most is not None and are_alike(model, model.with_many(link, end, Many(many.least))):
            found.append((link, end, "most"))
    return found


def join_of(one, other):
    """Return the join of two comparable models."""
    check_comparable(one, other)
    roads, other_roads = Roads(one), Roads(other)
    for kind in one.kinds():
        if other_roads.paper_for(kind) is not None:
            check_full(roads, kind)
    manys = []
    for link, end in places_of(one):
        numbers = numbers_at(one, roads, link, end)
        manys.append(_both(numbers, numbers_at(other, other_roads, link, end)))
    return _with_manys(one, manys)


def places_of(model):
    """Return the list of the ends (link, end) of a model: the links sorted, near ahead of far."""
    return [(link, end) for link in model.links() for end in ENDS]


def numbers_at(model, roads, link, end):
    """Return the Many of the numbers that occur at an end of a link, None if its kind is empty."""
    if roads.paper_for(model.kind_at(link, end)) is not None:
        return None
    beyond = other_end(end)
    here, there = model.many_at(link, end), model.many_at(link, beyond)
    if roads.paper_for(model.kind_at(link, beyond)) is not None or here.most == 0 or there.most == 0:
        return Many.just(0)
    if roads.stiff_ring_by((link, end)) is not None:
        return Many.just(here.least)
    if roads.stiff_ring_by((link, beyond)) is not None:
        return Many.just(here.most)
    return here


def _number_or_none(numbers):
    """Return what a normal form has for the numbers that occur at an end."""
    return Many.just(0) if numbers is None else numbers


def _both(numbers, other_numbers):
    """Return the least Many that lets what occurs in one of two models, of which one at least has some."""
    if numbers is None:
        return other_numbers
    if other_numbers is None:
        return numbers
    return numbers | other_numbers


def _with_manys(model, manys):
    """Return the model with other Manys at all its ends, the links sorted, near ahead of far."""
    links = {}
    for link, ends in model.links().items():
        at = 2 * len(links)
        links[link] = (ends[0], manys[at], ends[2], manys[at + 1])
    return Model(model.kinds(), links)
