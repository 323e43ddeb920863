"""Databases made of sizes."""

import itertools
import unittest

from howmanyeach.databases import Database
from howmanyeach.errors import InvalidModel, InvalidSizes, NotLet, TooMany
from howmanyeach.manys import Many
from howmanyeach.models import Model
from howmanyeach.sizes import Sizes
from howmanyeach.tables import Table, totals
from tests import oracle
from tests.helpers import SIXTY, Checks, own_things, shop, strange_values


class OfSizes(Checks, unittest.TestCase):
    def not_let(self, gap, *values, **named):
        error = self.raised(NotLet, Database.of_sizes, *values, **named)
        self.assertEqual((error.link, error.line), gap)

    def check(self, model, sizes):
        gap = oracle.gap(model, sizes)
        if gap is not None:
            self.not_let(gap, model, sizes)
            self.not_let(gap, model, Sizes(sizes), most=True)
            return False
        for most, place in ((False, 0), (True, 1)):
            database = Database.of_sizes(model, sizes, most=most)
            self.assertIs(type(database), Database)
            self.assertEqual([database.model, database.sizes()], [model, sizes])
            self.assertTrue(database.keeps())
            for link, (near, near_many, far, far_many) in model.links().items():
                total = totals(sizes[near], near_many, sizes[far], far_many)[place]
                table = Table(sizes[near], sizes[far], total)
                self.assertEqual(database.pairs(link), sorted(table(number) for number in range(total)))
        self.assertEqual(Database.of_sizes(model, sizes), Database.of_sizes(sizes=sizes, model=model, most=False))
        return True

    def test_some_models(self):
        found = []
        for model in oracle.some_models(60, 1):
            for counts in itertools.product(range(4), repeat=len(model.kinds())):
                found.append(self.check(model, dict(zip(model.kinds(), counts))))
        self.assertGreater(min(found.count(True), found.count(False)), 200)

    def test_by_hand(self):
        sizes = {"order": 2, "line": 2, "bill": 1}
        self.assertEqual(Database.of_sizes(shop(), sizes).pairs("paid"), [(0, 0), (1, 0)])
        self.assertEqual(Database.of_sizes(shop(), sizes).pairs("has"), [(0, 0), (1, 1)])
        model = shop().with_many("has", "far", Many(0, 2)).with_many("has", "near", Many(1))
        self.assertEqual(Database.of_sizes(model, sizes).pairs("has"), [(0, 0), (1, 1)])
        self.assertEqual(Database.of_sizes(model, Sizes(sizes), most=True).pairs("has"),
                         [(0, 0), (0, 1), (1, 0), (1, 1)])

    def test_each_line_is_told(self):
        model = Model(["a", "b"], {"l": ("a", Many(3, 4), "b", Many(2, 5))})
        for a, b, line in ((7, 4, 0), (2, 5, 1), (1, 2, 2), (1, 1, 2), (1, 3, 1), (0, 1, 1)):
            self.not_let(("l", line), model, {"a": a, "b": b})
        self.not_let(("l", 2), model.with_many("l", "far", Many(0)), {"a": 1, "b": 2})
        self.not_let(("l", 3), model.with_many("l", "near", Many(0)), {"a": 1, "b": 2})
        self.not_let(("l", 0), model.with_many("l", "far", Many(0, 0)), {"a": 1, "b": 9})
        self.assertTrue(Database.of_sizes(model, {"a": 2, "b": 4}).keeps())

    def test_the_first_link_is_told(self):
        self.not_let(("has", 0), shop(), {"order": 5, "line": 4, "bill": 1})
        self.not_let(("paid", 0), shop(), {"order": 5, "line": 5, "bill": 1})
        self.not_let(("paid", 1), shop(), {"order": 5, "line": 5, "bill": 3})

    def test_a_kind_with_itself(self):
        model = Model(["a"], {"l": ("a", Many(2, 3), "a", Many(2))})
        for size in range(6):
            self.check(model, {"a": size})
        self.not_let(("l", 2), model, {"a": 1})

    def test_too_many_rows(self):
        for sizes in ({"order": 46, "line": 46, "bill": 16}, {"order": 34, "line": 54, "bill": 13},
                      {"order": 3 * SIXTY, "line": 4 * SIXTY, "bill": SIXTY}):
            for most in (True, False):
                error = self.raised(TooMany, Database.of_sizes, shop(), sizes, most=most)
                self.assertEqual([error.what, error.limit], ["rows", 100])
        self.assertTrue(Database.of_sizes(shop(), {"order": 34, "line": 54, "bill": 12}).keeps())
        self.not_let(("has", 0), shop(), {"order": SIXTY, "line": 54, "bill": 12})

    def test_refused(self):
        for value in strange_values() + own_things()[:-1]:
            self.refused(InvalidModel, value, Database.of_sizes, value, 1)
            self.refused(InvalidModel, value, Database.of_sizes, most=True, sizes=1, model=value)
        for value in strange_values() + own_things() + [{"order": 2}, {"order": 2, "line": 2, "bill": True}]:
            self.refused(InvalidSizes, value, Database.of_sizes, shop(), value)
            self.refused(InvalidSizes, value, Database.of_sizes, sizes=value, model=shop(), most=True)

    def test_most_is_passed_by_name(self):
        self.assertRaises(TypeError, Database.of_sizes, shop(), {"order": 2, "line": 2, "bill": 1}, True)


if __name__ == "__main__":
    unittest.main()
