"""The four lines of a link: what each asks of the sizes at its two ends."""

from howmanyeach.errors import NotLet

LINES = (0, 1, 2, 3)


def check_let(model, sizes):
    """Raise NotLet unless sizes keep all lines of the model."""
    gap = gap_of(model, sizes)
    if gap is not None:
        raise NotLet(gap[0], gap[1])


def gap_of(model, sizes):
    """Return a tuple of the first link of the model, and its first line, that sizes do not keep, or None."""
    for link, (near, near_many, far, far_many) in model.links().items():
        line = wrong_line(sizes[near], near_many, sizes[far], far_many)
        if line is not None:
            return (link, line)
    return None


def wrong_line(near, near_many, far, far_many):
    """Return the first line that is not true for a near and a far size, None if all are."""
    for line in LINES:
        if not is_line_true(line, near, near_many, far, far_many):
            return line
    return None


def is_line_true(line, near, near_many, far, far_many):
    """Tell whether a line is true for a near and a far size."""
    if line == 0:
        return far_many.most is None or near * near_many.least <= far * far_many.most
    if line == 1:
        return near_many.most is None or far * far_many.least <= near * near_many.most
    if line == 2:
        return near == 0 or far >= near_many.least
    return far == 0 or near >= far_many.least


def spared_by(line, near, near_many, far, far_many):
    """Return the greatest size of the one that asks with which a line that is not true becomes true.

    This is the near size for the lines 0 and 2, the far one for 1 and 3.
    """
    if line == 0:
        return far * far_many.most // near_many.least
    if line == 1:
        return near * near_many.most // far_many.least
    return 0
