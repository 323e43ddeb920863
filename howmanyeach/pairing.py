"""Pairs that are changed along paths until rows have as many partners as they need."""

from howmanyeach.values import ENDS, other_end


class Pairing:
    """Rows at two ends, pairs of them that stay, and others that can be taken and left again.

    can: a dict from the ends to dicts from the rows to lists of the rows with
    which pairs can be taken; taken: likewise, to dicts of those with which
    they are; fixed: likewise, to the numbers of the pairs that stay.
    """

    def __init__(self, near_rows, far_rows, staying, pairs):
        rows = {"near": near_rows, "far": far_rows}
        self.can = {end: {row: [] for row in rows[end]} for end in ENDS}
        self.taken = {end: {row: {} for row in rows[end]} for end in ENDS}
        self.fixed = {end: {row: 0 for row in rows[end]} for end in ENDS}
        for near, far in staying:
            self.fixed["near"][near] = self.fixed["near"][near] + 1
            self.fixed["far"][far] = self.fixed["far"][far] + 1
        for near, far in pairs:
            self.can["near"][near].append(far)
            self.can["far"][far].append(near)

    def taken_pairs(self):
        """Return the sorted list of the pairs that are taken."""
        taken = self.taken["near"]
        return sorted([(near, far) for near in taken for far in taken[near]])

    def fill(self, end, least, most):
        """Give each row of an end the least number of partners; no row of the other end gets more than most."""
        for row in list(self.can[end]):
            while self._degree(end, row) < least and self._gain(end, row, least, most):
                pass

    def _degree(self, end, row):
        return self.fixed[end][row] + len(self.taken[end][row])

    def _gain(self, end, row, least, most):
        """Give a row one partner more, and take one from a row that has more than the least, if need be.

        Tell whether this could be.
        """
        path = self._path(end, row, least, most)
        if path is None:
            return False
        came, here, partner = path
        if partner is not None:
            self._take(end, here, partner)
        while came[here] is not None:
            ahead, partner = came[here]
            self._leave(end, here, partner)
            self._take(end, ahead, partner)
            here = ahead
        return True

    def _path(self, end, row, least, most):
        """Return a tuple (came, last, partner) for a path on which pairs can be exchanged, None if there is none.

        came tells for each row that was reached the row ahead of it, and the
        partner that it can leave to this. The last row gets the partner as a
        new one, or, if this is None, it is left with one partner less.
        """
        beyond = other_end(end)
        came = {row: None}
        seen = {}
        waiting = [row]
        at = 0
        while at < len(waiting):
            here = waiting[at]
            at = at + 1
            for partner in self.can[end][here]:
                if partner in seen or partner in self.taken[end][here]:
                    continue
                seen[partner] = True
                if most is None or self._degree(beyond, partner) < most:
                    return (came, here, partner)
                givers = [giver for giver in self.taken[beyond][partner] if giver not in came]
                for giver in givers:
                    came[giver] = (here, partner)
                    if self._degree(end, giver) > least:
                        return (came, giver, None)
                    waiting.append(giver)
        return None

    def _take(self, end, row, partner):
        self.taken[end][row][partner] = True
        self.taken[other_end(end)][partner][row] = True

    def _leave(self, end, row, partner):
        del self.taken[end][row][partner]
        del self.taken[other_end(end)][partner][row]
