"""Drafts: models that are being made."""

from howmanyeach.errors import InvalidLink, InvalidModel, InvalidName, Taken, UnknownKind, UnknownLink
from howmanyeach.models import Model, are_ends, check_limits
from howmanyeach.trials import Trial
from howmanyeach.values import is_name


class Draft:
    """Kinds and links that can be set and taken away."""

    def __init__(self, model=None):
        # Both parts are replaced, never changed: trials and copies rely on it.
        self._state = ([], {})
        if model is not None:
            if not isinstance(model, Model):
                raise InvalidModel(model)
            self._state = (model.kinds(), model.links())

    def drop(self, link):
        """Take a link away."""
        kinds, links = self._state
        if not _is_key(link, links):
            raise UnknownLink(link)
        self._state = (kinds, {left: links[left] for left in links if left != link})

    def made(self):
        """Return the Model with these kinds and links."""
        kinds, links = self._state
        return Model(kinds, links)

    def copy(self):
        """Return another Draft with the same kinds and links."""
        twin = Draft()
        twin._state = self._state
        return twin

    def trying(self):
        """Return a context manager that gives this Draft, and sets it back at the end."""
        return Trial(self)

    def tried_by(self, deed):
        """Return what a function returns for this Draft, which is then as it was."""
        with Trial(self) as draft:
            return deed(draft)

    def __getitem__(self, link):
        if not _is_key(link, self._state[1]):
            raise UnknownLink(link)
        return self._state[1][link]

    def __setitem__(self, link, ends):
        if not is_name(link):
            raise InvalidName(link)
        if not are_ends(ends):
            raise InvalidLink(ends)
        kinds, links = self._state
        self._replace(sorted(set(kinds + [ends[0], ends[2]])), {**links, link: ends})

    def __iadd__(self, kind):
        if not is_name(kind):
            raise InvalidName(kind)
        if kind in self:
            raise Taken(kind)
        kinds, links = self._state
        self._replace(kinds + [kind], links)
        return self

    def __isub__(self, kind):
        if kind not in self:
            raise UnknownKind(kind)
        kinds, links = self._state
        for link in sorted(links):
            if kind in (links[link][0], links[link][2]):
                raise Taken(link)
        self._state = ([left for left in kinds if left != kind], links)
        return self

    def __contains__(self, value):
        return is_name(value) and value in self._state[0]

    def __len__(self):
        return len(self._state[1])

    def __iter__(self):
        raise TypeError("a Draft is not iterated over")

    def _replace(self, kinds, links):
        check_limits(kinds, links)
        self._state = (kinds, links)


def _is_key(value, links):
    return is_name(value) and value in links
