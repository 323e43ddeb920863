"""Steps from kind to kind, and the ways and rings that are made of them."""

from howmanyeach.checks import check_kind, check_model, check_place
from howmanyeach.errors import InvalidWay
from howmanyeach.ratios import Ratio
from howmanyeach.values import ENDS, is_end, other_end


def steps_of(model):
    """Return the sorted list of the steps (link, end) of a model, broken ones too."""
    check_model(model)
    places = [(link, end) for link in model.links() for end in sorted(ENDS)]
    return [place for place in places if is_step(model, place)]


def factor_of(model, link, end):
    """Return the Ratio of the step from this end, None if there is none."""
    check_place(model, link, end)
    if not is_step(model, (link, end)):
        return None
    most = _most_beyond(model, link, end)
    return Ratio(model.many_at(link, end).least, most) if most else None


def is_broken(model, link, end):
    """Tell whether there is a broken step from this end."""
    check_place(model, link, end)
    return is_step(model, (link, end)) and _most_beyond(model, link, end) == 0


def goal_of(model, kind, way):
    """Return the kind to which a way from the kind leads."""
    check_model(model)
    check_kind(model, kind)
    goal = goal_by(model, kind, way)
    if goal is None:
        raise InvalidWay(way)
    return goal


def product_of(model, kind, way):
    """Return the product of a way from the kind."""
    goal_of(model, kind, way)
    product = Ratio(1)
    for link, end in way:
        product = product * weight_of(model, link, end)
    return product


def is_way(model, kind, goal, value):
    """Tell whether any value is a way from the kind to the kind goal."""
    check_model(model)
    check_kind(model, kind)
    check_kind(model, goal)
    return goal_by(model, kind, value) == goal


def is_ring(model, kind, value):
    """Tell whether any value is a ring from the kind."""
    return is_way(model, kind, kind, value) and len(value) > 0


def is_step(model, value):
    """Tell whether any value is a step of the model, perhaps a broken one."""
    if not isinstance(value, tuple) or len(value) != 2 or not model.has_link(value[0]) or not is_end(value[1]):
        return False
    return model.many_at(value[0], value[1]).least > 0


def weight_of(model, link, end):
    """Return what a step counts in a product: its factor, 0 if it has none."""
    factor = factor_of(model, link, end)
    return Ratio(0) if factor is None else factor


def goal_by(model, kind, value):
    """Return the kind to which any value leads as a way from the kind, None if it is no such way."""
    if not isinstance(value, (list, tuple)):
        return None
    goal = kind
    for step in value:
        if not is_step(model, step) or is_broken(model, step[0], step[1]) or model.kind_at(step[0], step[1]) != goal:
            return None
        goal = model.kind_at(step[0], other_end(step[1]))
    return goal


def _most_beyond(model, link, end):
    return model.many_at(link, other_end(end)).most
