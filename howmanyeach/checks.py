"""Checks of the parameters that many functions have."""

from howmanyeach.errors import Apart, InvalidCount, InvalidEnd, InvalidModel, UnknownKind, UnknownLink
from howmanyeach.models import Model, have_same_shape
from howmanyeach.values import is_count, is_end


def check_model(model):
    """Raise InvalidModel unless this is a Model."""
    if not isinstance(model, Model):
        raise InvalidModel(model)


def check_comparable(one, other):
    """Raise the error of the first of two models that is none, or Apart if they are not comparable."""
    check_model(one)
    check_model(other)
    if not have_same_shape(one, other):
        raise Apart(one, other)


def check_kind(holder, kind):
    """Raise UnknownKind unless this is a kind of the Model, or of the Sizes."""
    if kind not in holder:
        raise UnknownKind(kind)


def check_link(model, link):
    """Raise UnknownLink unless this is a link of the model."""
    if not model.has_link(link):
        raise UnknownLink(link)


def check_end(end):
    """Raise InvalidEnd unless this is an end."""
    if not is_end(end):
        raise InvalidEnd(end)


def check_place(model, link, end):
    """Raise the error of the first of these three that is wrong."""
    check_model(model)
    check_link(model, link)
    check_end(end)


def check_count(count):
    """Raise InvalidCount unless this is a COUNT."""
    if not is_count(count):
        raise InvalidCount(count)
