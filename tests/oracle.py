"""What the tests reckon with: the document's facts, told another way than in the package."""

import random
from fractions import Fraction

from howmanyeach.manys import Many
from howmanyeach.models import Model

# Divided without rest by all products of four numbers up to 6.
WHOLE = 60 ** 4


def lines_of(model):
    """All lines of a model: tuples (link, line, the kind that is asked for, a function to what it has to have)."""
    found = []
    for link, (near, near_many, far, far_many) in sorted(model.links().items()):
        p, q, r, s = near_many.least, near_many.most, far_many.least, far_many.most
        found.append((link, 0, far, lambda sizes, a=near, p=p, s=s: least_times(s, sizes[a] * p)))
        found.append((link, 1, near, lambda sizes, b=far, r=r, q=q: least_times(q, sizes[b] * r)))
        found.append((link, 2, far, lambda sizes, a=near, p=p: p if sizes[a] else 0))
        found.append((link, 3, near, lambda sizes, b=far, r=r: r if sizes[b] else 0))
    return found


def least_times(most, wanted):
    """The least number that, taken most times, is at least what is wanted; None if there is none."""
    if most is None or wanted == 0:
        return 0
    return None if most == 0 else -(-wanted // most)


def gap(model, sizes):
    for link, line, kind, asks in lines_of(model):
        asked = asks(sizes)
        if asked is None or sizes[kind] < asked:
            return (link, line)
    return None


def least(model, told, bound=10 ** 30):
    """The least sizes that are let and at least the told ones, None if there are none."""
    sizes = {kind: told.get(kind, 0) for kind in model.kinds()}
    is_still = False
    while not is_still:
        is_still = True
        for _, _, kind, asks in lines_of(model):
            asked = asks(sizes)
            if asked is None or asked > bound:
                return None
            if asked > sizes[kind]:
                sizes[kind] = asked
                is_still = False
    return sizes


def is_full(model, kind):
    return least(model, {kind: 1}) is not None


def low(model, kind, other):
    """How many of the other kind come to one of the kind at least, for a full kind."""
    return Fraction(least(model, {kind: WHOLE})[other], WHOLE)


def steps(model):
    """A dict from all steps to tuples (kind, goal, what it counts, None if it is broken)."""
    found = {}
    for link, (near, near_many, far, far_many) in sorted(model.links().items()):
        for end, kind, goal, here, there in (("far", far, near, far_many, near_many),
                                             ("near", near, far, near_many, far_many)):
            if here.least:
                weight = None if there.most == 0 else Fraction(here.least, there.most) if there.most else Fraction(0)
                found[link, end] = (kind, goal, weight)
    return found


def follow(model, kind, way):
    """The kind to which a way leads, and its product; each step has to go on from the one ahead of it."""
    product = Fraction(1)
    for step in way:
        start, goal, weight = steps(model)[step]
        if start != kind or weight is None:
            raise ValueError(step)
        kind, product = goal, product * weight
    return kind, product


def some_models(many, seed, kinds=3, links=4, top=3):
    """Many models, always the same ones."""
    chance = random.Random(seed)
    for _ in range(many):
        names = list("abcde")[:chance.randint(1, kinds)]
        told = {}
        for link in list("lmnopqrs")[:chance.randint(0, links)]:
            told[link] = (chance.choice(names), some_many(chance, top), chance.choice(names), some_many(chance, top))
        yield Model(names, told)


def some_many(chance, top):
    least_number = chance.choice([0, 0, 1, 1, 1, chance.randint(0, top)])
    most = chance.choice([None, least_number, chance.randint(least_number, top), chance.randint(least_number, top)])
    return Many(least_number, most)
