"""Completions of told rows and pairs: whether there are any, the least sizes of them, and what is in the way."""

from howmanyeach.bounding import check_told_full
from howmanyeach.checks import check_end, check_link
from howmanyeach.cuts import Side, sides_of
from howmanyeach.databases import MOST_ROWS, Database
from howmanyeach.errors import InvalidSizes, Lacking, TooMany
from howmanyeach.leads import is_ring, is_step, product_of
from howmanyeach.normal import normal_form, places_of
from howmanyeach.pairing import Pairing
from howmanyeach.ratios import Ratio
from howmanyeach.rings import check_full, is_empty_paper
from howmanyeach.rising import rise
from howmanyeach.roads import Roads
from howmanyeach.sizes import Sizes, sizes_for
from howmanyeach.told import check_told
from howmanyeach.values import is_end


def obstacle_of(told):
    """Return an obstacle, a reason why there is no completion, None if there is one."""
    check_told(told)
    model = told.model
    roads = Roads(model)
    for kind in model.kinds():
        if told.rows(kind) and roads.paper_for(kind) is not None:
            return ("empty", kind, roads.paper_for(kind))
    for link, end in places_of(model):
        many = model.many_at(link, end)
        ring = roads.stiff_ring_by((link, end))
        for row in told.rows(model.kind_at(link, end)):
            degree = told.degree(link, end, row)
            if many.most is not None and degree > many.most:
                return ("past", link, end, row)
            if ring is not None and degree > many.least:
                return ("stiff", ring, row)
    return None


def is_obstacle(told, value):
    """Tell whether any value is an obstacle of the Told."""
    check_told(told)
    if not isinstance(value, tuple) or not value:
        return False
    if value[0] == "past" and len(value) == 4:
        return _is_past(told, value[1], value[2], value[3])
    if value[0] == "empty" and len(value) == 3:
        kind, paper = value[1:]
        return kind in told.model and len(told.rows(kind)) > 0 and is_empty_paper(told.model, kind, paper)
    if value[0] == "stiff" and len(value) == 3:
        return _is_stiff(told, value[1], value[2])
    return False


def can_complete(told):
    """Tell whether there is a completion."""
    return obstacle_of(told) is None


def least_completion(told):
    """Return the least Sizes of completions that are at least as great as the wished ones."""
    _check_completable(told)
    check_told_full(told.model, told.wished)
    return least_from(told, told.wished.counts())


def lacks_of(told):
    """Return a dict from the kinds to how many rows are lacking, without regard to wishes."""
    _check_completable(told)
    least = least_from(told, no_wishes(told))
    return {kind: least[kind] - len(told.rows(kind)) for kind in least.kinds()}


def fits_sizes(told, sizes):
    """Tell whether some completion has these sizes."""
    check_told(told)
    counts = sizes_for(told.model, sizes).counts()
    return _are_above(told, counts) and all([side.cut(counts) is None for side in sides_of(told)])


def cut_of(told, sizes, link, end):
    """Return a cut (names, is_new) for these sizes at an end of a link, None if there is none."""
    side, counts = _side_for(told, sizes, link, end)
    return side.cut(counts)


def is_cut(told, sizes, link, end, value):
    """Tell whether any value is a cut for these sizes at an end of a link."""
    side, counts = _side_for(told, sizes, link, end)
    if not isinstance(value, tuple) or len(value) != 2 or not isinstance(value[1], bool):
        return False
    return side.are_names(value[0]) and side.is_cut(counts, value[0], value[1])


def completion(told):
    """Return a completion with the least completion sizes, a Database."""
    return completion_with(told, least_completion(told))


def is_completion(told, value):
    """Tell whether any value is a Database that is a completion."""
    check_told(told)
    if not isinstance(value, Database) or value.model != told.model or not value.keeps():
        return False
    if not _are_above(told, value.sizes()):
        return False
    for link in told.model.links():
        pairs = value.pairs(link)
        if not all([pair in pairs for pair in _numbered_pairs(told, link)]):
            return False
    return True


def extra_pairs(told):
    """Return the number of the fewest told pairs without which there is a completion."""
    check_told(told)
    roads = Roads(told.model)
    for kind in told.model.kinds():
        if told.rows(kind):
            check_full(roads, kind)
    many = 0
    for link, (near, near_many, far, far_many) in normal_form(told.model).links().items():
        pairs = told[link]
        pairing = Pairing(told.rows(near), told.rows(far), [], pairs)
        # Nobody has more partners than there are pairs, so nobody has some to give.
        most = len(pairs) if near_many.most is None else near_many.most
        pairing.fill("near", most, far_many.most)
        many = many + len(pairs) - len(pairing.taken_pairs())
    return many


def no_wishes(told):
    """Return a dict from the kinds to 0."""
    return {kind: 0 for kind in told.model.kinds()}


def least_from(told, wished):
    """Return the least Sizes of the completions of a Told, of which there are some, above wished COUNTS."""
    counts = {kind: max(wished[kind], len(told.rows(kind))) for kind in wished}
    rise(sides_of(told), counts)
    return Sizes(counts)


def completion_with(told, sizes):
    """Return a completion with these sizes, with which there is one."""
    if sum(sizes.counts().values()) > MOST_ROWS:
        raise TooMany("rows", MOST_ROWS)
    return Database(told.model, sizes, {link: _pairs_for(told, sizes, link) for link in told.model.links()})


def _is_past(told, link, end, row):
    if not told.model.has_link(link) or not is_end(end) or (told.model.kind_at(link, end), row) not in told:
        return False
    most = told.model.many_at(link, end).most
    return most is not None and told.degree(link, end, row) > most


def _is_stiff(told, ring, row):
    model = told.model
    if not isinstance(ring, (list, tuple)) or not ring or not is_step(model, ring[0]):
        return False
    link, end = ring[0]
    kind = model.kind_at(link, end)
    if not is_ring(model, kind, ring) or product_of(model, kind, ring) != Ratio(1) or (kind, row) not in told:
        return False
    return told.degree(link, end, row) > model.many_at(link, end).least


def _check_completable(told):
    obstacle = obstacle_of(told)
    if obstacle is not None:
        raise Lacking(obstacle)


def _are_above(told, counts):
    return all([counts[kind] >= len(told.rows(kind)) for kind in counts])


def _side_for(told, sizes, link, end):
    """Return the side of the Told at this end, and a dict of the sizes."""
    check_told(told)
    counts = sizes_for(told.model, sizes).counts()
    if not _are_above(told, counts):
        raise InvalidSizes(sizes)
    check_link(told.model, link)
    check_end(end)
    return (Side(told, link, end), counts)


def _numbered_pairs(told, link):
    """Return the told pairs of a link as pairs of rows of a completion."""
    near_rows = told.rows(told.model.kind_at(link, "near"))
    far_rows = told.rows(told.model.kind_at(link, "far"))
    return [(near_rows.index(near), far_rows.index(far)) for near, far in told[link]]


def _pairs_for(told, sizes, link):
    """Return the pairs of a link of a completion with these sizes, with which there is one."""
    near, near_many, far, far_many = told.model.links()[link]
    near_rows, far_rows = list(range(sizes[near])), list(range(sizes[far]))
    staying = _numbered_pairs(told, link)
    others = [(row, partner) for row in near_rows for partner in far_rows if (row, partner) not in staying]
    pairing = Pairing(near_rows, far_rows, staying, others)
    pairing.fill("near", near_many.least, far_many.most)
    # What the near rows have got by now, they keep: the far ones take no more than what is to spare.
    pairing.fill("far", far_many.least, near_many.most)
    return staying + pairing.taken_pairs()
