"""What the tests reckon with: the document's facts, told another way than in the package."""

import functools
import itertools
import random
from fractions import Fraction

from howmanyeach.manys import Many
from howmanyeach.models import Model

# Divided without rest by all products of four numbers up to 6.
WHOLE = 60 ** 4


def lines_of(model):
    """All lines of a model: tuples (link, line, the kind that is asked for, a function to what it has to have)."""
    found = []
    for link, (near, near_many, far, far_many) in sorted(model.links().items()):
        p, q, r, s = near_many.least, near_many.most, far_many.least, far_many.most
        found.append((link, 0, far, lambda sizes, a=near, p=p, s=s: least_times(s, sizes[a] * p)))
        found.append((link, 1, near, lambda sizes, b=far, r=r, q=q: least_times(q, sizes[b] * r)))
        found.append((link, 2, far, lambda sizes, a=near, p=p: p if sizes[a] else 0))
        found.append((link, 3, near, lambda sizes, b=far, r=r: r if sizes[b] else 0))
    return found


def least_times(most, wanted):
    """The least number that, taken most times, is at least what is wanted; None if there is none."""
    if most is None or wanted == 0:
        return 0
    return None if most == 0 else -(-wanted // most)


def gap(model, sizes):
    for link, line, kind, asks in lines_of(model):
        asked = asks(sizes)
        if asked is None or sizes[kind] < asked:
            return (link, line)
    return None


def least(model, told, bound=10 ** 30):
    """The least sizes that are let and at least the told ones, None if there are none."""
    sizes = {kind: told.get(kind, 0) for kind in model.kinds()}
    is_still = False
    while not is_still:
        is_still = True
        for _, _, kind, asks in lines_of(model):
            asked = asks(sizes)
            if asked is None or asked > bound:
                return None
            if asked > sizes[kind]:
                sizes[kind] = asked
                is_still = False
    return sizes


def is_full(model, kind):
    return least(model, {kind: 1}) is not None


def low(model, kind, other):
    """How many of the other kind come to one of the kind at least, for a full kind."""
    return Fraction(least(model, {kind: WHOLE})[other], WHOLE)


def steps(model):
    """A dict from all steps to tuples (kind, goal, what it counts, None if it is broken)."""
    found = {}
    for link, (near, near_many, far, far_many) in sorted(model.links().items()):
        for end, kind, goal, here, there in (("far", far, near, far_many, near_many),
                                             ("near", near, far, near_many, far_many)):
            if here.least:
                weight = None if there.most == 0 else Fraction(here.least, there.most) if there.most else Fraction(0)
                found[link, end] = (kind, goal, weight)
    return found


def follow(model, kind, way):
    """The kind to which a way leads, and its product; each step has to go on from the one ahead of it."""
    product = Fraction(1)
    for step in way:
        start, goal, weight = steps(model)[step]
        if start != kind or weight is None:
            raise ValueError(step)
        kind, product = goal, product * weight
    return kind, product


def some_models(many, seed, kinds=3, links=4, top=3):
    """Many models, always the same ones."""
    chance = random.Random(seed)
    for _ in range(many):
        names = list("abcde")[:chance.randint(1, kinds)]
        told = {}
        for link in list("lmnopqrs")[:chance.randint(0, links)]:
            told[link] = (chance.choice(names), some_many(chance, top), chance.choice(names), some_many(chance, top))
        yield Model(names, told)


def some_many(chance, top):
    least_number = chance.choice([0, 0, 1, 1, 1, chance.randint(0, top)])
    most = chance.choice([None, least_number, chance.randint(least_number, top), chance.randint(least_number, top)])
    return Many(least_number, most)


def is_true(line, sizes, ends):
    """Whether a line of a link is true, as the document words it."""
    near, near_many, far, far_many = ends
    a, b, p, q, r, s = sizes[near], sizes[far], near_many.least, near_many.most, far_many.least, far_many.most
    return [s is None or b * (s or 0) >= a * p, q is None or a * (q or 0) >= b * r, a == 0 or b >= p,
            b == 0 or a >= r][line]


def raises(model, told):
    """The raises for told sizes, one by one, and the sizes behind them; no empty kind is told above 0."""
    sizes, found = dict(told), []
    is_still = False
    while not is_still:
        is_still = True
        for link, ends in sorted(model.links().items()):
            for line in range(4):
                kind = ends[2] if line in (0, 2) else ends[0]
                if not is_true(line, sizes, ends):
                    while not is_true(line, sizes, ends):
                        sizes[kind] += 1
                    found.append((link, line, sizes[kind]))
                    is_still = False
    return found, sizes


def lowerings(model, room):
    """The lowerings for a room, one by one, and the sizes behind them."""
    sizes, found = dict(room), []
    for kind in sorted(sizes):
        if sizes[kind] and not is_full(model, kind):
            sizes[kind] = 0
            found.append((None, kind, 0))
    is_still = False
    while not is_still:
        is_still = True
        for link, ends in sorted(model.links().items()):
            for line in range(4):
                kind = ends[0] if line in (0, 2) else ends[2]
                if not is_true(line, sizes, ends):
                    while not is_true(line, sizes, ends):
                        sizes[kind] -= 1
                    found.append((link, line, sizes[kind]))
                    is_still = False
    return found, sizes


def box(model, top):
    """All sizes of up to so many rows of each kind."""
    for counts in itertools.product(range(top + 1), repeat=len(model.kinds())):
        yield dict(zip(model.kinds(), counts))


@functools.cache
def degrees(near, far):
    """The sorted numbers of partners at both ends, and how they belong together, of all sets of pairs."""
    found = set()
    rows = [(a, b) for a in range(near) for b in range(far)]
    for chosen in itertools.product((0, 1), repeat=len(rows)):
        at_near, at_far = [0] * near, [0] * far
        for (a, b), is_chosen in zip(rows, chosen):
            at_near[a] += is_chosen
            at_far[b] += is_chosen
        found.add((tuple(sorted(at_near)), tuple(sorted(at_far))))
    return sorted(found)


@functools.cache
def _let_degrees(near, p, q, far, r, s):
    return [(at_near, at_far) for at_near, at_far in degrees(near, far)
            if all(p <= number and (q is None or number <= q) for number in at_near)
            and all(r <= number and (s is None or number <= s) for number in at_far)]


def let_degrees(sizes, ends):
    """The numbers of partners at both ends of a link, of all sets of pairs that these sizes let."""
    near, near_many, far, far_many = ends
    return _let_degrees(sizes[near], near_many.least, near_many.most, sizes[far], far_many.least, far_many.most)


def is_let(model, sizes):
    """Whether some database has these sizes, by going through all sets of pairs."""
    return all(let_degrees(sizes, ends) for ends in model.links().values())


def has_row(model, sizes, link, end, number):
    """Whether some database has these sizes and such a row, by going through all sets of pairs."""
    place = ("near", "far").index(end)
    return is_let(model, sizes) and any(number in found[place] for found in let_degrees(sizes, model.links()[link]))


def ring_models(many, seed):
    """Many models with a ring through all their kinds and full kinds, always the same ones."""
    chance = random.Random(seed)
    while many:
        names = list("abcde")[:chance.randint(2, 5)]
        told = {}
        for at, name in enumerate(names):
            least_number, most = chance.randint(1, 6), chance.randint(1, 6)
            told["lmnop"[at]] = (name, Many(least_number, chance.choice([None, 6, least_number])),
                                 names[(at + 1) % len(names)], Many(chance.randint(0, most), most))
        for link in list("qrs")[:chance.randint(0, 3)]:
            told[link] = (chance.choice(names), some_many(chance, 6), chance.choice(names), some_many(chance, 6))
        model = Model(names, told)
        if all(is_full(model, name) for name in names):
            many -= 1
            yield model
