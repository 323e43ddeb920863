"""Steps from kind to kind, and the ways and rings that are made of them."""

from howmanyeach.checks import check_kind, check_model, check_place
from howmanyeach.errors import InvalidWay
from howmanyeach.ratios import Ratio
from howmanyeach.values import is_end, other_end


def steps_of(model):
    """Return the sorted list of the steps (link, end) of a model, broken ones too."""
    check_model(model)
    return list(parts_of_steps(model))


def factor_of(model, link, end):
    """Return the Ratio of the step from this end, None if there is none."""
    check_place(model, link, end)
    if not is_step(model, (link, end)):
        return None
    most = _most_beyond(model, link, end)
    return Ratio(model.many_at(link, end).least, most) if most else None


def is_broken(model, link, end):
    """Tell whether there is a broken step from this end."""
    check_place(model, link, end)
    return is_step(model, (link, end)) and _most_beyond(model, link, end) == 0


def goal_of(model, kind, way):
    """Return the kind to which a way from the kind leads."""
    check_model(model)
    check_kind(model, kind)
    goal = goal_by(model, kind, way)
    if goal is None:
        raise InvalidWay(way)
    return goal


def product_of(model, kind, way):
    """Return the product of a way from the kind."""
    goal_of(model, kind, way)
    steps = parts_of_steps(model)
    top = bottom = 1
    for step in way:
        factor_top, factor_bottom = parts_of_factor(steps[step])
        top, bottom = top * factor_top, bottom * factor_bottom
    return Ratio(top, bottom)


def is_way(model, kind, goal, value):
    """Tell whether any value is a way from the kind to the kind goal."""
    check_model(model)
    check_kind(model, kind)
    check_kind(model, goal)
    return goal_by(model, kind, value) == goal


def is_ring(model, kind, value):
    """Tell whether any value is a ring from the kind."""
    return is_way(model, kind, kind, value) and len(value) > 0


def is_step(model, value):
    """Tell whether any value is a step of the model, perhaps a broken one."""
    if not isinstance(value, tuple) or len(value) != 2 or not model.has_link(value[0]) or not is_end(value[1]):
        return False
    return model.many_at(value[0], value[1]).least > 0


def parts_of_steps(model):
    """Return a dict from all steps, sorted, to tuples (kind, goal, least, most).

    The least number is that at this end, the most one that at the other end.
    """
    found = {}
    for link, (near, near_many, far, far_many) in model.links().items():
        if far_many.least:
            found[(link, "far")] = (far, near, far_many.least, near_many.most)
        if near_many.least:
            found[(link, "near")] = (near, far, near_many.least, far_many.most)
    return found


def parts_of_factor(parts):
    """Return a tuple (top, bottom) of what a step with these parts, not broken, counts in a product."""
    least, most = parts[2:]
    return (0, 1) if most is None else (least, most)


def goal_by(model, kind, value):
    """Return the kind to which any value leads as a way from the kind, None if it is no such way."""
    if not isinstance(value, (list, tuple)):
        return None
    steps = parts_of_steps(model)
    goal = kind
    for step in value:
        if not is_step(model, step):
            return None
        start, beyond, _, most = steps[step]
        if start != goal or most == 0:
            return None
        goal = beyond
    return goal


def _most_beyond(model, link, end):
    return model.many_at(link, other_end(end)).most
