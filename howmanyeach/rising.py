"""Asks that sizes have to meet, and the rounds in which the sizes rise until they do.

An ask has the attributes kind, of whose size it asks, and mark, a tuple
(link, line) or None; and a method asked(counts), the least size that it asks
for, which never falls if a size rises.
"""


class ShareAsk:
    """So many partners for each row of another kind, and some more, at most so many for each row of the kind."""

    def __init__(self, mark, kind, other, least, most, more):
        self.mark = mark
        self.kind = kind
        self.other = other
        self.each = least
        self.bound = most
        self.more = more

    def asked(self, counts):
        """Return the least size that this asks for."""
        # Without a bound a row can have them all; where it is 0 nobody has rows that need some.
        if not self.bound:
            return 0
        return -(-(counts[self.other] * self.each + self.more) // self.bound)


class RowsAsk:
    """So many rows of the kind, where there are more than some rows of another kind."""

    def __init__(self, mark, kind, other, many, least):
        self.mark = mark
        self.kind = kind
        self.other = other
        self.many = many
        self.wanted = least

    def asked(self, counts):
        """Return the least size that this asks for."""
        return self.wanted if counts[self.other] > self.many else 0


def line_asks(model):
    """Return the asks of the lines of a model, the links sorted, the lines of each from 0 to 3."""
    asks = []
    for link, (near, near_many, far, far_many) in model.links().items():
        asks.append(ShareAsk((link, 0), far, near, near_many.least, far_many.most, 0))
        asks.append(ShareAsk((link, 1), near, far, far_many.least, near_many.most, 0))
        asks.append(RowsAsk((link, 2), far, near, 0, near_many.least))
        asks.append(RowsAsk((link, 3), near, far, 0, far_many.least))
    return asks


def rise(asks, counts):
    """Raise the counts, a dict that changes, in rounds until all asks are met.

    Return the list of the raises, tuples (ask, size).
    """
    raises = []
    is_still = False
    while not is_still:
        is_still = True
        for ask in asks:
            size = ask.asked(counts)
            if size > counts[ask.kind]:
                counts[ask.kind] = size
                raises.append((ask, size))
                is_still = False
    return raises
