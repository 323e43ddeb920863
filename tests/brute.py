"""Completions, told by going through all sets of pairs."""

import itertools
import random

from howmanyeach.manys import Many
from howmanyeach.models import Model
from howmanyeach.told import Told


def told_with(model, rows, pairs=None, wished=None):
    """A Told with these rows, a dict from kinds to strings of one-letter names, and these pairs, likewise."""
    told = Told(model)
    for kind, names in rows.items():
        for name in names:
            told += (kind, name)
    for link, words in (pairs or {}).items():
        told[link] = [tuple(word) for word in words.split()]
    if wished:
        told.wished = {**{kind: 0 for kind in model.kinds()}, **wished}
    return told


def some_tolds(many, seed, top=3):
    """Tolds of small models, always the same ones."""
    chance = random.Random(seed)
    for _ in range(many):
        kinds = list("ab")[:chance.randint(1, 2)]
        model = Model(kinds, {link: (chance.choice(kinds), some_many(chance, top), chance.choice(kinds),
                                     some_many(chance, top)) for link in "lm"[:chance.randint(1, 2)]})
        yield some_told(model, chance, 3, chance.random() < 0.3)


def some_many(chance, top):
    least = chance.choice([0, 1, 1, 2, 2, top])
    return Many(least, chance.choice([None, least, least + 1, least + 2, max(least, 3)]))


def some_told(model, chance, most_rows, can_be_past):
    told = Told(model)
    for kind in model.kinds():
        for name in "zyxwvutsrqpo"[:chance.randint(0, most_rows)]:
            told += (kind, name)
    for link, (near, near_many, far, far_many) in model.links().items():
        kept = []
        every = list(itertools.product(told.rows(near), told.rows(far)))
        for pair in chance.sample(every, min(len(every), chance.choice([0, 1, 1, 2, 3, 9]))):
            degrees = [len([other for other in kept if other[at] == pair[at]]) for at in (0, 1)]
            if can_be_past or all(many.most is None or degree < many.most
                                  for many, degree in zip((near_many, far_many), degrees)):
                kept.append(pair)
        told[link] = kept
    return told


def has_link(told, link, near_size, far_size):
    """Whether some set of pairs with all told ones gives each row a number of partners that is let."""
    near, near_many, far, far_many = told.model.links()[link]
    near_rows, far_rows = told.rows(near), told.rows(far)
    fixed = [(near_rows.index(one), far_rows.index(other)) for one, other in told[link]]
    free = [pair for pair in itertools.product(range(near_size), range(far_size)) if pair not in fixed]
    for chosen in itertools.product((False, True), repeat=len(free)):
        at_near, at_far = [0] * near_size, [0] * far_size
        for row, partner in fixed + [pair for pair, is_chosen in zip(free, chosen) if is_chosen]:
            at_near[row] += 1
            at_far[partner] += 1
        if all(number in near_many for number in at_near) and all(number in far_many for number in at_far):
            return True
    return False


class Fits:
    """Whether some completion of a Told has these sizes; None if there are too many sets of pairs."""

    def __init__(self, told, most_free=9):
        self.told = told
        self.most_free = most_free
        self.known = {}

    def __call__(self, sizes):
        told = self.told
        if any(sizes[kind] < len(told.rows(kind)) for kind in sizes):
            return False
        answers = []
        for link, (near, _, far, _) in told.model.links().items():
            key = (link, sizes[near], sizes[far])
            if sizes[near] * sizes[far] - len(told[link]) > self.most_free:
                return None
            if key not in self.known:
                self.known[key] = has_link(told, *key)
            answers.append(self.known[key])
        return all(answers)


def lack_and_offer(told, sizes, link, end, names, is_new):
    """The lack and the offer, as the document words them."""
    model = told.model
    beyond = "far" if end == "near" else "near"
    kind, goal = model.kind_at(link, end), model.kind_at(link, beyond)
    p, s = model.many_at(link, end).least, model.many_at(link, beyond).most
    x = sizes[kind] - len(told.rows(kind)) if is_new else 0
    y = sizes[goal] - len(told.rows(goal))
    k = len(names) + x
    lack = sum(max(0, p - told.degree(link, end, name)) for name in names) + x * p
    offer = y * k if s is None else y * min(s, k)
    for row in told.rows(goal):
        pairs = [(name, row) if end == "near" else (row, name) for name in names]
        rest = k - len([pair for pair in pairs if pair in told[link]])
        offer += rest if s is None else min(s - told.degree(link, beyond, row), rest)
    return lack, offer


def all_cuts(told, sizes, link, end):
    """All cuts for these sizes, by going through all sets of told rows."""
    rows = sorted(told.rows(told.model.kind_at(link, end)))
    found = []
    for many in range(len(rows) + 1):
        for names in itertools.combinations(rows, many):
            for is_new in (False, True):
                lack, offer = lack_and_offer(told, sizes, link, end, names, is_new)
                if lack > offer:
                    found.append((names, is_new))
    return found
