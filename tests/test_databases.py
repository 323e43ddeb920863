"""Databases: rows, pairs, and whether they keep a model."""

import itertools
import operator
import unittest

from howmanyeach.databases import Database
from howmanyeach.errors import (Apart, InvalidCount, InvalidDatabase, InvalidEnd, InvalidModel, InvalidPairs, InvalidRow,
                                InvalidSizes, TooMany, UnknownLink)
from howmanyeach.manys import Many
from howmanyeach.models import Model
from howmanyeach.sizes import Sizes
from tests.helpers import SIXTY, Checks, own_things, shop, strange_values

ONE = Many.just(1)
SIZES = {"order": 2, "line": 3, "bill": 1}
PAIRS = {"has": [(1, 0), (0, 2), (1, 1)], "paid": [(1, 0), (0, 0)]}


def stock():
    return Database(shop(), SIZES, PAIRS)


def own_links():
    """A model whose links join a kind with itself, and two kinds twice."""
    return Model(["a", "b"], {"l": ("a", Many(0, 2), "a", Many(1)), "m": ("a", Many(0), "b", Many(1, 2)),
                              "n": ("b", Many(0, 1), "a", Many(0))})


def all_databases(model, sizes):
    """All databases of a model with these sizes, with their pairs."""
    choices = []
    for near, _, far, _ in model.links().values():
        pairs = list(itertools.product(range(sizes[near]), range(sizes[far])))
        choices.append([list(itertools.compress(pairs, choice))
                        for choice in itertools.product([False, True], repeat=len(pairs))])
    for chosen in itertools.product(*choices):
        pairs = dict(zip(model.links(), chosen))
        yield Database(model, sizes, pairs), pairs


def first_fault(model, sizes, pairs):
    for link, (near, near_many, far, far_many) in model.links().items():
        for at, end, kind, many in ((0, "near", near, near_many), (1, "far", far, far_many)):
            for row in range(sizes[kind]):
                if sum(pair[at] == row for pair in pairs.get(link, [])) not in many:
                    return (link, end, row)
    return None


class Made(unittest.TestCase):
    def test_parts(self):
        for database in (stock(), Database(pairs=PAIRS, model=shop(), sizes=Sizes(SIZES)),
                         Database(shop(), SIZES, {link: tuple(PAIRS[link]) for link in ("paid", "has")})):
            self.assertEqual(database.model, shop())
            self.assertEqual(list(database.sizes().items()), sorted(SIZES.items()))
            self.assertIs(type(database.sizes()), dict)
            self.assertEqual([database.pairs("has"), database.pairs(link="paid")],
                             [[(0, 2), (1, 0), (1, 1)], [(0, 0), (1, 0)]])

    def test_partners(self):
        database = stock()
        self.assertEqual(database.partners("has", "near", 1), [0, 1])
        self.assertEqual(database.partners(row=0, end="near", link="has"), [2])
        self.assertEqual([database.partners("has", "far", row) for row in range(3)], [[1], [1], [0]])
        self.assertEqual([database.partners("paid", "far", 0), database.partners("paid", "near", 1)], [[0, 1], [0]])

    def test_without_pairs(self):
        for database in (Database(shop(), SIZES), Database(shop(), SIZES, {}), Database(shop(), SIZES, None),
                         Database(shop(), SIZES, {"paid": []})):
            self.assertEqual([database.pairs("has"), database.pairs("paid")], [[], []])
            self.assertEqual(database.partners("paid", "far", 0), [])
            self.assertEqual(database, Database(shop(), SIZES))

    def test_up_to_a_hundred_rows(self):
        model = Model(["a", "b"], {"l": ("a", Many(0), "b", Many(0))})
        for a, b in ((100, 0), (0, 100), (50, 50), (1, 99)):
            self.assertEqual(Database(model, {"a": a, "b": b}).sizes(), {"a": a, "b": b})
        every = list(itertools.product(range(50), repeat=2))
        self.assertEqual(Database(model, {"a": 50, "b": 50}, {"l": every[::-1]}).pairs("l"), every)

    def test_what_was_passed_or_returned_can_be_changed(self):
        sizes, pairs = dict(SIZES), {link: list(PAIRS[link]) for link in PAIRS}
        database = Database(shop(), sizes, pairs)
        sizes["order"] = 7
        pairs["has"].append((0, 0))
        pairs["paid"] = []
        database.sizes()["line"] = 0
        database.pairs("has").clear()
        database.partners("has", "near", 1).append(2)
        self.assertEqual(database, stock())
        self.assertEqual(database.partners("has", "near", 1), [0, 1])


class Kept(unittest.TestCase):
    def check(self, model, sizes):
        faults = set()
        for database, pairs in all_databases(model, sizes):
            fault = first_fault(model, sizes, pairs)
            self.assertEqual(database.fault(), fault)
            self.assertIs(database.keeps(), fault is None)
            faults.add(fault)
            for link, (near, _, far, _) in model.links().items():
                self.assertEqual(database.pairs(link), sorted(pairs[link]))
                for row in range(sizes[near]):
                    self.assertEqual(database.partners(link, "near", row),
                                     sorted(pair[1] for pair in pairs[link] if pair[0] == row))
                for row in range(sizes[far]):
                    self.assertEqual(database.partners(link, "far", row),
                                     sorted(pair[0] for pair in pairs[link] if pair[1] == row))
        return faults

    def test_by_counting(self):
        self.assertEqual(len(self.check(shop(), {"order": 2, "line": 2, "bill": 1})), 7)
        self.check(shop(), {"order": 1, "line": 3, "bill": 0})
        self.check(shop(), {"order": 0, "line": 0, "bill": 0})
        self.check(own_links(), {"a": 2, "b": 1})
        self.check(own_links(), {"a": 1, "b": 2})

    def test_first_faults_by_hand(self):
        self.assertIsNone(stock().fault())
        self.assertEqual(Database(shop(), SIZES).fault(), ("has", "near", 0))
        self.assertEqual(Database(shop(), SIZES, {"has": [(0, 0), (1, 1)]}).fault(), ("has", "far", 2))
        self.assertEqual(Database(shop(), SIZES, {**PAIRS, "paid": [(0, 0)]}).fault(), ("paid", "near", 1))
        self.assertEqual(Database(shop(), {**SIZES, "bill": 2}, PAIRS).fault(), ("paid", "far", 1))
        self.assertIs(type(Database(shop(), SIZES).fault()), tuple)

    def test_a_row_can_be_its_own_partner(self):
        model = Model(["a"], {"l": ("a", ONE, "a", ONE)})
        self.assertTrue(Database(model, {"a": 2}, {"l": [(0, 0), (1, 1)]}).keeps())
        self.assertEqual(Database(model, {"a": 2}, {"l": [(0, 0), (1, 0)]}).fault(), ("l", "far", 0))


class KeptOfOthers(Checks, unittest.TestCase):
    def test_by_counting(self):
        sizes = {"order": 2, "line": 2, "bill": 1}
        others = [shop(), shop().with_many("has", "near", Many(0)), shop().with_many("paid", "far", ONE),
                  shop().with_many("has", "far", Many(0, 2)).with_many("paid", "near", Many(0, 1))]
        for database, pairs in all_databases(shop(), sizes):
            for other in others:
                self.assertIs(database.keeps_of(other), first_fault(other, sizes, pairs) is None)
            self.assertIs(database.keeps_of(model=others[1]), database.keeps_of(others[1]))

    def test_apart(self):
        database = stock()
        links = shop().links()
        for other in (shop().without("has"), shop().turned("has"), shop() | Model(["x"]),
                      shop() | Model(["bill"], {"a": ("bill", ONE, "bill", ONE)}),
                      Model(["order", "line", "bill"], {"has": links["has"], "paie": links["paid"]}),
                      Model(["order", "line", "bill"], {"has": ("order", ONE, "bill", ONE), "paid": links["paid"]})):
            error = self.raised(Apart, database.keeps_of, other)
            self.assertEqual([error.one, error.other], [shop(), other])
            self.assertIs(error.other, other)
        for value in strange_values() + own_things()[:-1] + [database]:
            self.refused(InvalidModel, value, database.keeps_of, value)
            self.refused(InvalidModel, value, database.keeps_of, model=value)


class Refused(Checks, unittest.TestCase):
    def test_models(self):
        for value in strange_values() + own_things()[:-1]:
            self.refused(InvalidModel, value, Database, value, 1, 2)
            self.refused(InvalidModel, value, Database, pairs=1, sizes={}, model=value)

    def test_sizes(self):
        for value in strange_values() + own_things() + [{}, {"order": 1}, {**SIZES, "x": 1}, {**SIZES, "line": -1},
                                                        {**SIZES, "line": True}, Sizes({"order": 1}), list(SIZES)]:
            self.refused(InvalidSizes, value, Database, shop(), value, 5)
            self.refused(InvalidSizes, value, Database, pairs={"x": 1}, sizes=value, model=shop())

    def pairs(self, link, position, pairs, sizes=None):
        for error in (self.raised(InvalidPairs, Database, shop(), sizes or SIZES, pairs),
                      self.raised(InvalidPairs, Database, pairs=pairs, model=shop(), sizes=Sizes(sizes or SIZES))):
            self.assertEqual([error.link, error.position], [link, position])

    def test_no_dict_of_links(self):
        for value in strange_values() + own_things() + [list(PAIRS), {**PAIRS, "order": []}, {"a": 1, "has": 2},
                                                        {1: []}, {None: []}, {("has",): []}]:
            if value is not None and value != {}:
                self.pairs(None, None, value)

    def test_no_lists(self):
        for value in strange_values() + own_things() + [{(0, 0): 1}, {(0, 0)}, "00", 0]:
            if not isinstance(value, (list, tuple)):
                self.pairs("paid", None, {"has": [], "paid": value})
                self.pairs("has", None, {"paid": [5], "has": value})

    def test_no_pairs(self):
        for value in strange_values() + own_things() + [[0, 0], (0,), (0, 0, 0), (2, 0), (0, 3), (-1, 0), (0, -1),
                                                        (0, True), (False, 0), (0, "0"), (0, None), (SIXTY, 0),
                                                        ((0, 0), 0), ([], {}), {0: 0}]:
            if value != (1, 2):
                self.pairs("has", 0, {"has": [value]})
                self.pairs("has", 2, {"has": ((0, 0), (1, 1), value, (0, 0), 5), "paid": 1})
                self.pairs("paid", 1, {"paid": [(1, 0), value], "has": []})
        self.pairs("paid", 0, {"paid": [(0, 1)]})
        self.pairs("paid", 0, {"paid": [(0, 0)]}, {**SIZES, "bill": 0})

    def test_repeated_pairs(self):
        self.pairs("has", 2, {"has": [(0, 0), (1, 0), (0, 0), (1, 0)]})
        self.pairs("has", 1, {"has": [(1, 1), (1, 1)], "paid": None})
        self.pairs("paid", 2, {"has": [(0, 0)], "paid": [(0, 0), (1, 0), (0, 0)]})

    def test_too_many_rows(self):
        for sizes in ({"order": 101, "line": 0, "bill": 0}, {"order": 34, "line": 34, "bill": 33},
                      {"order": SIXTY, "line": 0, "bill": 1}):
            for pairs in (None, {"has": []}, {"paid": []}):
                error = self.raised(TooMany, Database, shop(), sizes, pairs)
                self.assertEqual([error.what, error.limit], ["rows", 100])
            self.pairs("has", None, {"has": 1}, sizes)
            self.pairs(None, None, {"x": []}, sizes)

    def test_links_ends_rows(self):
        database = stock()
        for value in strange_values() + own_things() + ["order", ["has"]]:
            self.refused(UnknownLink, value, database.pairs, value)
            self.refused(UnknownLink, value, database.pairs, link=value)
            self.refused(UnknownLink, value, database.partners, value, 1, -1)
            if value != "near":
                self.refused(InvalidEnd, value, database.partners, "has", value, -1)
                self.refused(InvalidEnd, value, database.partners, row=-1, end=value, link="paid")
            self.refused(InvalidRow, value, database.partners, "has", "far", value)
        for link, end, row in (("has", "near", 2), ("has", "far", 3), ("paid", "far", 1), ("paid", "near", SIXTY)):
            self.refused(InvalidRow, row, database.partners, link, end, row)
            self.refused(InvalidRow, row, database.partners, row=row, end=end, link=link)


class SideBySide(Checks, unittest.TestCase):
    def test_sum(self):
        one, other = stock(), Database(shop(), {"order": 1, "line": 2, "bill": 3}, {"has": [(0, 1)], "paid": [(0, 2)]})
        got = one + other
        self.assertIs(type(got), Database)
        self.assertEqual(got, Database(shop(), {"order": 3, "line": 5, "bill": 4},
                                       {"has": PAIRS["has"] + [(2, 4)], "paid": PAIRS["paid"] + [(2, 3)]}))
        self.assertEqual(other + one, Database(shop(), got.sizes(), {
            "has": [(0, 1), (2, 2), (1, 4), (2, 3)], "paid": [(0, 2), (2, 3), (1, 3)]}))
        self.assertEqual([one, other.sizes()], [stock(), {"bill": 3, "line": 2, "order": 1}])
        nothing = Database(shop(), {"order": 0, "line": 0, "bill": 0})
        self.assertEqual([one + nothing, nothing + one], [one, one])

    def test_a_kind_with_itself(self):
        one = Database(own_links(), {"a": 2, "b": 1}, {"l": [(0, 1), (1, 1)], "n": [(0, 1)]})
        other = Database(own_links(), {"a": 1, "b": 1}, {"l": [(0, 0)], "m": [(0, 0)]})
        self.assertEqual(one + other, Database(own_links(), {"a": 3, "b": 2}, {
            "l": [(0, 1), (1, 1), (2, 2)], "m": [(2, 1)], "n": [(0, 1)]}))

    def test_times(self):
        for times in range(6):
            wanted = Database(shop(), {"order": 0, "line": 0, "bill": 0})
            for _ in range(times):
                wanted = wanted + stock()
            self.assertEqual(stock() * times, wanted)
            self.assertEqual(times * stock(), wanted)
        self.assertEqual((stock() * 16).sizes(), {"bill": 16, "line": 48, "order": 32})
        self.assertTrue((stock() * 16).keeps())

    def test_very_many_times_nothing(self):
        nothing = Database(shop(), {"order": 0, "line": 0, "bill": 0})
        self.assertEqual([nothing * SIXTY, SIXTY * nothing, nothing * 0], [nothing, nothing, nothing])

    def test_too_many_rows(self):
        half = Database(shop(), {"order": 20, "line": 30, "bill": 0})
        self.assertEqual((half + half).sizes(), {"bill": 0, "line": 60, "order": 40})
        more = Database(shop(), {"order": 20, "line": 30, "bill": 1})
        for call, one, other in ((operator.add, half, more), (operator.add, more, half), (operator.mul, stock(), 17),
                                 (operator.mul, 17, stock()), (operator.mul, half, 3), (operator.mul, SIXTY, half)):
            error = self.raised(TooMany, call, one, other)
            self.assertEqual([error.what, error.limit], ["rows", 100])

    def test_no_database_of_an_equal_model(self):
        for value in strange_values() + own_things() + [0, SIZES, Database(shop().without("has"), SIZES),
                                                        Database(shop().with_many("has", "far", Many(1)), SIZES),
                                                        Database(shop().without("has"), {**SIZES, "line": 90})]:
            self.refused(InvalidDatabase, value, operator.add, stock(), value)

    def test_no_times(self):
        for value in strange_values() + own_things() + [stock()]:
            self.refused(InvalidCount, value, operator.mul, stock(), value)
        for value in strange_values() + [shop()]:
            self.refused(InvalidCount, value, operator.mul, value, stock())

    def test_equal(self):
        self.assertTrue(stock() == stock())
        for other in (Database(shop(), SIZES), Database(shop(), {**SIZES, "line": 4}, PAIRS),
                      Database(shop().with_many("has", "far", Many(0, 1)), SIZES, PAIRS),
                      Database(shop(), SIZES, {**PAIRS, "paid": [(0, 0)]}), shop(), SIZES, None, 0, "db"):
            self.assertIs(stock() == other, False)
            self.assertIs(other == stock(), False)
            self.assertIs(stock() != other, True)

    def test_the_model_stays(self):
        self.assertRaises(AttributeError, setattr, stock(), "model", shop())


if __name__ == "__main__":
    unittest.main()
