"""Cuts: what the rows at an end of a link lack, and what those at the other end offer."""

from howmanyeach.values import ENDS, is_name, other_end


class Side:
    """A link of a Told as it is seen from one end, an ask for rows at the other one (see rising.py).

    other: the kind of this end; kind: that of the other end, of whose size it
    asks; need: the least number at this end; bound: the most number at the
    other end; lacks: a dict from the told rows of this end to what they lack;
    lacking: the sorted list of those that lack something; mates: a dict from
    the told rows of the other end to dicts of their told partners; spares: a
    dict from these rows to what they can have beyond (0 without a bound).
    """

    def __init__(self, told, link, end):
        model = told.model
        beyond = other_end(end)
        self.mark = None
        self.other = model.kind_at(link, end)
        self.kind = model.kind_at(link, beyond)
        self.need = model.many_at(link, end).least
        self.bound = model.many_at(link, beyond).most
        self.lacks = {row: max(0, self.need - told.degree(link, end, row)) for row in told.rows(self.other)}
        self.lacking = sorted([row for row in self.lacks if self.lacks[row]])
        pairs = told[link] if end == "near" else [(near, far) for far, near in told[link]]
        self.mates = {row: {here: True for here, there in pairs if there == row} for row in told.rows(self.kind)}
        self.spares = {row: (self.bound or 0) - len(self.mates[row]) for row in self.mates}
        self.few_asked = {}

    def asked(self, counts):
        """Return the least size of the other end's kind with which there is no cut, if nobody is past an end."""
        new = counts[self.other] - len(self.lacks)
        if self.bound is None:
            return self.need if new or self.lacking else 0
        few = min(new, self.bound)
        if few not in self.few_asked:
            self.few_asked[few] = self._asked_by_few(few)
        wanted = self.few_asked[few]
        if 0 < self.bound <= len(self.lacking) + new:
            short = self._lack(self.lacking, new) - sum([self.spares[row] for row in self.spares])
            wanted = max(wanted, -(-short // self.bound))
        return len(self.mates) + wanted

    def cut(self, counts):
        """Return a cut for these sizes, None if there is none."""
        for names, is_new in self._choices(counts[self.other] - len(self.lacks)):
            if self.is_cut(counts, names, is_new):
                return (names, is_new)
        return None

    def are_names(self, value):
        """Tell whether any value is a sorted tuple of different told rows of this end's kind."""
        if not isinstance(value, tuple) or not all([is_name(name) and name in self.lacks for name in value]):
            return False
        return all([value[at - 1] < value[at] for at in range(1, len(value))])

    def is_cut(self, counts, names, is_new):
        """Tell whether the lack of some told rows, perhaps with all new ones, exceeds the offer."""
        new = counts[self.other] - len(self.lacks) if is_new else 0
        width = len(names) + new
        most_each = width if self.bound is None else min(self.bound, width)
        new_beyond = counts[self.kind] - len(self.mates)
        return self._lack(names, new) > self._told_offer(names, width) + new_beyond * most_each

    def _lack(self, names, new):
        return sum([self.lacks[name] for name in names]) + new * self.need

    def _told_offer(self, names, width):
        """Return what the told rows of the other end offer to so many rows, these told ones among them."""
        offer = 0
        for row in self.mates:
            strangers = width - len([name for name in names if name in self.mates[row]])
            offer = offer + (strangers if self.bound is None else min(self.spares[row], strangers))
        return offer

    def _choices(self, new):
        """Return tuples (names, is_new), one of which is a cut if there is any.

        Who lacks nothing only adds to the offer. Without a bound each row can
        be taken by itself. As soon as there are as many rows as the bound,
        the offer does not grow with more of them: then all can be taken.
        """
        if self.bound is None:
            return [((name,), False) for name in self.lacking] + [((), True)]
        few = self._few(self.bound - 1)
        with_new = [names for names in few if len(names) + new < self.bound]
        return [(names, False) for names in few] + [(names, True) for names in with_new + [tuple(self.lacking)]]

    def _few(self, most):
        """Return all sorted tuples of at most so many of the rows that lack something."""
        found = [()]
        for name in self.lacking:
            found = found + [names + (name,) for names in found if len(names) < most]
        return found

    def _asked_by_few(self, new):
        """Return how many new rows all choices of fewer rows than the bound ask for."""
        wanted = 0
        for names in self._few(self.bound - 1):
            for more in (0, new):
                width = len(names) + more
                if 0 < width < self.bound:
                    short = self._lack(names, more) - self._told_offer(names, width)
                    wanted = max(wanted, -(-short // width))
        return wanted


def sides_of(told):
    """Return the list of all sides of a Told: the links sorted, near ahead of far."""
    return [Side(told, link, end) for link in told.model.links() for end in ENDS]
