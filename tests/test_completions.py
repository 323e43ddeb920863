"""Completions themselves, the judge of them, and told pairs that are too many."""

import itertools
import random
import unittest

from howmanyeach.completing import (can_complete, completion, extra_pairs, is_completion, lacks_of, least_completion)
from howmanyeach.databases import Database
from howmanyeach.errors import InvalidTold, Lacking, TooMany
from howmanyeach.manys import Many
from howmanyeach.models import Model
from howmanyeach.normal import normal_form
from tests import oracle
from tests.brute import some_told, some_tolds, told_with
from tests.helpers import SIXTY, Checks, own_things, shop, strange_values
from tests.test_bounding import zeros
from tests.test_rings import around, is_paper, sick
from tests.test_told import state

ONE = Many.just(1)


def is_right(told, database):
    """Whether a database of the model is a completion, by its rows and pairs one by one."""
    model = told.model
    sizes = database.sizes()
    if any(sizes[kind] < len(told.rows(kind)) for kind in sizes):
        return False
    for link, (near, near_many, far, far_many) in model.links().items():
        pairs = database.pairs(link)
        for one, other in told[link]:
            if (told.rows(near).index(one), told.rows(far).index(other)) not in pairs:
                return False
        for place, kind, many in ((0, near, near_many), (1, far, far_many)):
            for row in range(sizes[kind]):
                if len([pair for pair in pairs if pair[place] == row]) not in many:
                    return False
    return True


class Completions(Checks, unittest.TestCase):
    def check(self, told):
        before = state(told)
        database = completion(told)
        self.assertIs(type(database), Database)
        self.assertEqual(completion(told=told), database)
        self.assertEqual(database.model, told.model)
        self.assertEqual(database.sizes(), least_completion(told).counts())
        self.assertTrue(is_right(told, database))
        self.judge(told, database, True)
        self.assertEqual(state(told), before)
        return database

    def judge(self, told, value, is_it):
        self.assertIs(is_completion(told, value), is_it)
        self.assertIs(is_completion(value=value, told=told), is_it)

    def test_some_tolds(self):
        found = 0
        for told in some_tolds(300, 91):
            if not can_complete(told):
                self.assertTrue(self.raised(Lacking, completion, told).obstacle)
                continue
            for wish in ({}, {"a": 5}, {"a": 3, "b": 7}):
                if set(wish) <= set(told.model.kinds()) and all(oracle.is_full(told.model, kind) for kind in wish):
                    told.wished = zeros(told.model, **wish)
                    if sum(least_completion(told).counts().values()) <= 100:
                        self.check(told)
                        found += 1
        self.assertGreater(found, 300)

    def test_larger_models(self):
        chance = random.Random(92)
        found = 0
        for model in [*oracle.ring_models(80, 93), *oracle.some_models(80, 94, 4, 6, 6)]:
            told = some_told(model, chance, 6, False)
            if can_complete(told):
                if sum(least_completion(told).counts().values()) <= 100:
                    self.check(told)
                    found += 1
                else:
                    self.too_many(told)
        self.assertGreater(found, 60)

    def too_many(self, told):
        error = self.raised(TooMany, completion, told)
        self.assertEqual((error.what, error.limit), ("rows", 100))

    def test_the_sequence_of_the_rows(self):
        told = told_with(shop(), {"order": "zay", "line": "ml", "bill": "b"}, {"has": "zl ym", "paid": "yb"})
        database = self.check(told)
        self.assertEqual([pair in database.pairs("has") for pair in ((0, 1), (2, 0))], [True, True])
        self.assertIn((2, 0), database.pairs("paid"))

    def test_100_rows(self):
        told = told_with(Model(["a", "b"], {"l": ("a", ONE, "b", ONE)}), {"a": "x", "b": "yz"}, {"l": "xz"}, {"a": 50})
        self.assertEqual(self.check(told).sizes(), {"a": 50, "b": 50})
        told.wished = {"a": 51, "b": 0}
        self.too_many(told)
        told.wished = {"a": SIXTY, "b": 0}
        self.too_many(told)
        many = told_with(Model(["a"], {"l": ("a", Many(5, 6), "a", Many(5, 6)), "m": ("a", Many(3), "a", Many(1, 4))}),
                         {"a": "abcdefghijkl"}, {"l": "ab ac ad ba bb", "m": "cc cd ce cf cg ch"}, {"a": 100})
        self.check(many)

    def test_too_many_comes_last(self):
        told = told_with(sick(), {"a": "x"}, wished={"e": 500, "b": 1})
        self.assertEqual(self.raised(Lacking, completion, told).obstacle[0], "empty")
        told -= ("a", "x")
        self.empty("b", lambda paper: is_paper(sick(), "b", paper), completion, told)
        told.wished = zeros(sick(), e=101)
        self.too_many(told)

    def test_other_right_ones(self):
        told = told_with(shop(), {"order": "m", "line": "x"}, {"has": "mx"})
        sizes = {"bill": 1, "line": 3, "order": 2}
        for has, paid, is_it in (([(0, 0), (1, 1), (1, 2)], [(0, 0), (1, 0)], True),
                                 ([(0, 0), (1, 1), (0, 2)], [(0, 0), (1, 0)], True),
                                 ([(1, 0), (0, 1), (1, 2)], [(0, 0), (1, 0)], False),
                                 ([(0, 0), (0, 1), (0, 2)], [(0, 0), (1, 0)], False),
                                 ([(0, 0), (1, 1)], [(0, 0), (1, 0)], False),
                                 ([(0, 0), (1, 1), (1, 2)], [(0, 0)], False)):
            self.judge(told, Database(shop(), sizes, {"has": has, "paid": paid}), is_it)
        self.judge(told, Database.of_sizes(shop(), {"bill": 3, "line": 9, "order": 7}), True)
        self.judge(told, Database(shop(), zeros(shop())), False)
        self.judge(told_with(shop(), {}), Database(shop(), zeros(shop())), True)
        # Rows without pairs have to be there, too.
        self.judge(told_with(shop(), {"order": "m"}), Database(shop(), zeros(shop())), False)
        self.judge(told_with(shop(), {"order": "mno"}), Database.of_sizes(shop(), {"bill": 1, "line": 2, "order": 2}), False)
        self.judge(told_with(shop(), {"order": "mn"}), Database.of_sizes(shop(), {"bill": 1, "line": 2, "order": 2}), True)
        told += ("bill", "b")
        told["paid"] = [("m", "b")]
        self.judge(told, Database.of_sizes(shop(), {"bill": 3, "line": 9, "order": 7}), True)
        told += ("line", "y")
        told["has"] = [("m", "y")]
        self.judge(told, Database.of_sizes(shop(), {"bill": 3, "line": 9, "order": 7}), True)
        told -= ("line", "x")
        told += ("line", "x")
        told["has"] = [("m", "x")]
        self.judge(told, Database.of_sizes(shop(), {"bill": 1, "line": 2, "order": 2}), False)

    def test_wishes_have_no_bearing(self):
        told = told_with(shop(), {"order": "m"}, wished={"order": 50})
        self.judge(told, Database.of_sizes(shop(), {"bill": 1, "line": 2, "order": 2}), True)

    def test_changed_ones(self):
        found = []
        for told in some_tolds(120, 95):
            if not can_complete(told) or sum(lacks_of(told).values()) > 30:
                continue
            database = completion(told)
            sizes = database.sizes()
            pairs = {link: database.pairs(link) for link in told.model.links()}
            for link in pairs:
                near, far = (sizes[told.model.kind_at(link, end)] for end in ("near", "far"))
                for pair in itertools.product(range(near), range(far)):
                    changed = [other for other in pairs[link] if other != pair] + [pair] * (pair not in pairs[link])
                    other = Database(told.model, sizes, {**pairs, link: changed})
                    self.judge(told, other, is_right(told, other))
                    found.append(is_right(told, other))
            for kind in sizes:
                other = Database(told.model, {**sizes, kind: sizes[kind] + 1}, pairs)
                self.judge(told, other, is_right(told, other))
                found.append(is_right(told, other))
        self.assertGreater(min(found.count(True), found.count(False)), 100)

    def test_other_values(self):
        told = told_with(shop(), {"order": "m"})
        database = self.check(told)
        for value in strange_values() + own_things() + [told, [database], (database,), database.sizes(), Database]:
            self.judge(told, value, False)
        for model in (shop().with_many("has", "near", Many(1, 5)), shop() | Model(["x"]), shop().without("has")):
            sizes = {kind: database.sizes().get(kind, 0) for kind in model.kinds()}
            pairs = {link: database.pairs(link) for link in model.links()}
            self.judge(told, Database(model, sizes, pairs), False)

    def test_refused(self):
        for value in strange_values() + own_things():
            for call, rest in ((completion, {}), (is_completion, {"value": 1}), (extra_pairs, {})):
                self.refused(InvalidTold, value, call, value, *rest.values())
                self.refused(InvalidTold, value, call, **rest, told=value)


class ExtraPairs(Checks, unittest.TestCase):
    def check(self, told, number):
        before = state(told)
        self.assertEqual(extra_pairs(told), number)
        self.assertEqual(extra_pairs(told=told), number)
        self.assertEqual(state(told), before)

    def fewest(self, told):
        """The fewest pairs without which there is a completion, by all sets of pairs."""
        pairs = [(link, pair) for link in told.model.links() for pair in told[link]]
        for many in range(len(pairs) + 1):
            for gone in itertools.combinations(pairs, many):
                twin = told.copy()
                for link in told.model.links():
                    twin[link] = [pair for pair in told[link] if (link, pair) not in gone]
                if can_complete(twin):
                    return many
        return None

    def test_all_sets_of_pairs(self):
        found = []
        for told in some_tolds(1500, 96):
            empty = [kind for kind in told.model.kinds() if told.rows(kind) and not oracle.is_full(told.model, kind)]
            if empty:
                self.empty(empty[0], lambda paper: is_paper(told.model, empty[0], paper), extra_pairs, told)
                self.empty(empty[0], lambda paper: is_paper(told.model, empty[0], paper), extra_pairs, told=told)
            elif sum(len(told[link]) for link in told.model.links()) < 9:
                number = self.fewest(told)
                self.check(told, number)
                found.append(number)
        for number in (0, 1, 2):
            self.assertGreater(found.count(number), 3)

    def test_more_pairs(self):
        """Each link by all sets of its pairs, with the most numbers of the normal form."""
        chance = random.Random(97)
        found = []
        for model in oracle.ring_models(150, 98):
            told = some_told(model, chance, 5, True)
            if all(len(told[link]) < 10 for link in model.links()):
                form = normal_form(model)
                number = sum(len(told[link]) - self.most_kept(told[link], form.links()[link]) for link in model.links())
                self.check(told, number)
                found.append(number)
        self.assertGreater(len(set(found)), 3)

    def most_kept(self, pairs, ends):
        for many in range(len(pairs), -1, -1):
            for kept in itertools.combinations(pairs, many):
                if all(most is None or len([pair for pair in kept if pair[place] == row]) <= most
                       for place, most in ((0, ends[1].most), (1, ends[3].most)) for row in {pair[place] for pair in pairs}):
                    return many
        return 0

    def test_by_hand(self):
        told = told_with(shop(), {"order": "xyzu", "line": "ab", "bill": "cd"}, {"has": "xa ya za xb", "paid": "xc yc zc uc"})
        self.check(told, 3)
        told["paid"] = [("x", "c"), ("x", "d"), ("y", "c"), ("z", "c"), ("u", "c")]
        self.check(told, 3)
        told["has"] = []
        self.check(told, 1)
        self.check(told_with(around(2, 3, 3, 5, 5, 2), {"a": "xy", "b": "uvwz"}, {"l": "xu xv xw yz yw yu"}), 2)
        # What a row takes first may have to be left to another row.
        told = told_with(Model(["a", "b"], {"l": ("a", Many(0, 1), "b", Many(0, 1))}), {"a": "xyz", "b": "uvw"},
                         {"l": "xu xv yu zv zw"})
        self.check(told, 2)
        told["l"] = [("x", "u"), ("x", "v"), ("x", "w"), ("y", "u"), ("z", "v"), ("z", "u")]
        self.check(told, 3)
        self.check(told_with(Model(["a"]), {"a": "xyz"}), 0)

    def test_a_kind_with_itself(self):
        told = told_with(Model(["a"], {"l": ("a", Many(0, 1), "a", Many(0, 2))}), {"a": "xyz"}, {"l": "xx xy yx zx yz"})
        self.check(told, 2)
        told["l"] = [("x", "x"), ("y", "x"), ("z", "x")]
        self.check(told, 1)

    def test_empty_kinds_without_rows(self):
        self.check(told_with(sick(), {"e": "xyz"}, {"p": "xy xz xx"}), 1)
        self.empty("b", lambda paper: is_paper(sick(), "b", paper), extra_pairs, told_with(sick(), {"d": "x", "b": "y"}))

    def test_40_pairs(self):
        model = Model(["a", "b"], {"l": ("a", Many(0, 3), "b", Many(0))})
        told = told_with(model, {"a": "abcdefgh", "b": "vwxyz"},
                         {"l": " ".join(one + other for one in "abcdefgh" for other in "vwxyz")})
        self.check(told, 16)
        told = told_with(model.with_many("l", "far", Many(0, 4)), {"a": "abcdefgh", "b": "vwxyz"},
                         {"l": " ".join(one + other for one in "abcdefgh" for other in "vwxyz")})
        self.check(told, 20)


if __name__ == "__main__":
    unittest.main()
