"""Models: kinds of rows, and the links between them."""

from howmanyeach.errors import (InvalidEnd, InvalidKinds, InvalidLink, InvalidMany, InvalidModel, Taken, TooMany,
                                UnknownKind, UnknownLink)
from howmanyeach.manys import Many
from howmanyeach.values import is_end, is_name


class Model:
    """Kinds, and links with a kind and a Many at each of their two ends."""

    MOST_KINDS = 5
    MOST_LINKS = 8

    def __init__(self, kinds, links=None):
        _check_kinds(kinds)
        _check_links(links, kinds)
        told = {} if links is None else links
        check_limits(kinds, told)
        self._kinds = sorted(kinds)
        self._links = {link: told[link] for link in sorted(told)}

    def kinds(self):
        """Return the sorted list of the kinds."""
        return list(self._kinds)

    def links(self):
        """Return a dict from the links to tuples (near kind, near Many, far kind, far Many)."""
        return {link: self._links[link] for link in self._links}

    def has_link(self, value):
        """Tell whether any value is a link."""
        return is_name(value) and value in self._links

    def kind_at(self, link, end):
        """Return the kind at an end of a link."""
        return self._part_at(link, end, 0)

    def many_at(self, link, end):
        """Return the Many at an end of a link."""
        return self._part_at(link, end, 1)

    def with_many(self, link, end, many):
        """Return the model with another Many at an end of a link."""
        near, near_many, far, far_many = self._ends_of(link)
        if not is_end(end):
            raise InvalidEnd(end)
        if not is_small(many):
            raise InvalidMany(many)
        if end == "near":
            return self._with_ends(link, (near, many, far, far_many))
        return self._with_ends(link, (near, near_many, far, many))

    def without(self, *links):
        """Return the model without these links."""
        for link in links:
            if not self.has_link(link):
                raise UnknownLink(link)
        return Model(self._kinds, {left: self._links[left] for left in self._links if left not in links})

    def only(self, *kinds):
        """Return the model of these kinds and of the links between them."""
        for kind in kinds:
            if kind not in self:
                raise UnknownKind(kind)
        left = [kind for kind in self._kinds if kind in kinds]
        return Model(left, {link: ends for link, ends in self._links.items() if ends[0] in left and ends[2] in left})

    def turned(self, link):
        """Return the model in which the ends of this link are exchanged."""
        near, near_many, far, far_many = self._ends_of(link)
        return self._with_ends(link, (far, far_many, near, near_many))

    def __or__(self, other):
        if not isinstance(other, Model):
            raise InvalidModel(other)
        for link in self._links:
            if link in other._links:
                raise Taken(link)
        return Model(sorted(set(self._kinds + other._kinds)), {**self._links, **other._links})

    def __contains__(self, value):
        return is_name(value) and value in self._kinds

    def __len__(self):
        return len(self._links)

    def __eq__(self, other):
        return isinstance(other, Model) and self._kinds == other._kinds and self._links == other._links

    def __repr__(self):
        return f"Model({self._kinds!r}, {self._links!r})"

    def _ends_of(self, link):
        if not self.has_link(link):
            raise UnknownLink(link)
        return self._links[link]

    def _part_at(self, link, end, place):
        ends = self._ends_of(link)
        if not is_end(end):
            raise InvalidEnd(end)
        return ends[place] if end == "near" else ends[2 + place]

    def _with_ends(self, link, ends):
        return Model(self._kinds, {**self._links, link: ends})


def is_small(value):
    """Tell whether any value is a Many with no number above the greatest one of models."""
    if not isinstance(value, Many):
        return False
    return value.least <= Many.TOP and (value.most is None or value.most <= Many.TOP)


def are_ends(value):
    """Tell whether any value is a tuple (NAME, Many, NAME, Many) as the links of models have it."""
    if not isinstance(value, tuple) or len(value) != 4:
        return False
    return is_name(value[0]) and is_small(value[1]) and is_name(value[2]) and is_small(value[3])


def have_same_shape(one, other):
    """Tell whether two models have the same kinds and links, with the same kinds at the ends."""
    return one.kinds() == other.kinds() and _joined_kinds(one) == _joined_kinds(other)


def check_limits(kinds, links):
    """Raise TooMany unless a model can have so many kinds, and so many links."""
    if len(kinds) > Model.MOST_KINDS:
        raise TooMany("kinds", Model.MOST_KINDS)
    if len(links) > Model.MOST_LINKS:
        raise TooMany("links", Model.MOST_LINKS)


def _joined_kinds(model):
    return {link: (ends[0], ends[2]) for link, ends in model.links().items()}


def _check_kinds(kinds):
    if not isinstance(kinds, (list, tuple)) or not kinds:
        raise InvalidKinds(None)
    for position, kind in enumerate(kinds):
        if not is_name(kind) or kind in kinds[:position]:
            raise InvalidKinds(position)


def _check_links(links, kinds):
    if links is None:
        return
    if not isinstance(links, dict) or not all([is_name(link) for link in links]):
        raise InvalidLink(None)
    for link in sorted(links):
        ends = links[link]
        if not are_ends(ends) or ends[0] not in kinds or ends[2] not in kinds:
            raise InvalidLink(link)
