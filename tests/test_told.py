"""Told rows and pairs, and wishes."""

import unittest

from howmanyeach.errors import (InvalidEnd, InvalidModel, InvalidPairs, InvalidRow, InvalidSizes, Taken, TooMany,
                                UnknownKind, UnknownLink, UnknownRow)
from howmanyeach.manys import Many
from howmanyeach.models import Model
from howmanyeach.sizes import Sizes
from howmanyeach.told import Told
from tests.helpers import SIXTY, Checks, own_things, shop, strange_values, wrong_sizes

ONE = Many.just(1)


def circle():
    """A kind that is linked with itself, and with another one."""
    return Model(["a", "b"], {"l": ("a", Many(0, 2), "a", Many(0, 2)), "m": ("a", Many(0), "b", Many(0))})


def state(told):
    """All that can be asked of a Told."""
    return ({kind: told.rows(kind) for kind in told.model.kinds()}, {link: told[link] for link in told.model.links()},
            told.wished, len(told), told.model)


def some_told():
    told = Told(shop())
    for row in (("order", "x"), ("order", "b"), ("line", "x"), ("line", "a"), ("bill", "z"), ("order", "a")):
        told += row
    told["has"] = [("x", "x"), ("b", "a"), ("a", "x")]
    told["paid"] = [("b", "z")]
    return told


def add(told, row):
    told += row


def take(told, row):
    told -= row


def put(told, link, pairs):
    told[link] = pairs


class Rows(Checks, unittest.TestCase):
    def test_at_first(self):
        for told in (Told(shop()), Told(model=shop())):
            self.assertEqual(state(told), ({"bill": [], "line": [], "order": []}, {"has": [], "paid": []},
                                           Sizes({"bill": 0, "line": 0, "order": 0}), 0, shop()))
            self.assertFalse(("order", "x") in told)

    def test_added(self):
        told = Told(shop())
        same = told
        told += ("order", "x")
        told += ("line", "x")
        told += ("order", "abcdefgh")
        told += ("order", "order")
        self.assertIs(told, same)
        self.assertEqual([told.rows("order"), told.rows(kind="line"), told.rows("bill")],
                         [["x", "abcdefgh", "order"], ["x"], []])
        self.assertEqual(len(told), 4)

    def test_taken_away(self):
        told = some_told()
        same = told
        told -= ("order", "b")
        self.assertIs(told, same)
        self.assertEqual([told.rows("order"), told["has"], told["paid"]], [["x", "a"], [("a", "x"), ("x", "x")], []])
        told -= ("line", "x")
        self.assertEqual([told.rows("order"), told.rows("line"), told["has"]], [["x", "a"], ["a"], []])
        told += ("order", "b")
        self.assertEqual(told.rows("order"), ["x", "a", "b"])
        self.assertEqual([told["has"], len(told)], [[], 5])

    def test_a_kind_with_itself(self):
        told = Told(circle())
        for row in (("a", "x"), ("a", "y"), ("b", "x"), ("a", "z")):
            told += row
        told["l"] = [("x", "y"), ("y", "x"), ("x", "x"), ("y", "z"), ("z", "y")]
        told["m"] = [("x", "x"), ("y", "x")]
        self.assertEqual([told.degree("l", "near", "x"), told.degree("l", "far", "x"), told.degree("l", "near", "z")],
                         [2, 2, 1])
        told -= ("a", "x")
        self.assertEqual([told["l"], told["m"], told.rows("a"), told.rows("b")],
                         [[("y", "z"), ("z", "y")], [("y", "x")], ["y", "z"], ["x"]])
        told -= ("b", "x")
        self.assertEqual([told["l"], told["m"]], [[("y", "z"), ("z", "y")], []])

    def test_in(self):
        told = some_told()
        for row in (("order", "x"), ("line", "a"), ("bill", "z")):
            self.assertIs(row in told, True)
        for value in strange_values() + own_things() + [
                ("order", "z"), ("order",), ("order", "x", 1), ["order", "x"], ("x", "order"), ("orders", "x"),
                (["order"], "x"), ("order", ["x"]), ("order", None), ({}, {}), "order", ("order", "")]:
            self.assertIs(value in told, False)

    def test_no_equality_and_no_iteration(self):
        self.assertFalse(some_told() == some_told())
        told = some_told()
        self.assertTrue(told == told)
        self.assertRaises(TypeError, iter, told)
        self.assertRaises(TypeError, list, told)

    def test_refused(self):
        for value in strange_values() + own_things()[:-1]:
            self.refused(InvalidModel, value, Told, value)
            self.refused(InvalidModel, value, Told, model=value)
        told = some_told()
        before = state(told)
        wrong = strange_values() + own_things() + [("order", 5), ("orders", "x"), ("order", ""), ("order", "abcdefghi"),
                                                   ("order", "X"), ["order", "y"], ("order", "y", "z"), ("order",),
                                                   (["order"], "y"), ("order", ["y"]), (True, "y"), "order"]
        for value in wrong:
            self.refused(InvalidRow, value, add, told, value)
            self.refused(UnknownRow, value, take, told, value)
            if value != "order":
                self.refused(UnknownKind, value, told.rows, value)
                self.refused(UnknownKind, value, told.rows, kind=value)
        for value in (("order", "z"), ("bill", "x")):
            self.refused(UnknownRow, value, take, told, value)
        for value in (("order", "x"), ("bill", "z")):
            self.refused(Taken, value, add, told, value)
        self.assertEqual(state(told), before)

    def test_12_rows_of_a_kind(self):
        told = Told(shop())
        for name in "abcdefghijkl":
            told += ("order", name)
            told += ("line", name)
        before = state(told)
        error = self.raised(TooMany, add, told, ("order", "m"))
        self.assertEqual((error.what, error.limit), ("rows", 12))
        self.refused(Taken, ("order", "l"), add, told, ("order", "l"))
        self.refused(InvalidRow, ("order", 5), add, told, ("order", 5))
        self.assertEqual(state(told), before)
        told += ("bill", "m")
        told -= ("order", "c")
        told += ("order", "m")
        self.assertEqual("".join(told.rows("order")), "abdefghijklm")


class Pairs(Checks, unittest.TestCase):
    def test_set_and_told(self):
        told = some_told()
        self.assertEqual([told["has"], told["paid"]], [[("a", "x"), ("b", "a"), ("x", "x")], [("b", "z")]])
        told["has"] = (("x", "x"), ("x", "a"))
        self.assertEqual(told["has"], [("x", "a"), ("x", "x")])
        told["has"] = []
        told["paid"] = ()
        self.assertEqual([told["has"], told["paid"], len(told)], [[], [], 6])

    def test_past_an_end(self):
        told = some_told()
        told["has"] = [("a", "x"), ("b", "x"), ("x", "x")]
        told["paid"] = [(order, "z") for order in told.rows("order")]
        self.assertEqual([told.degree("has", "far", "x"), told.degree(name="z", end="far", link="paid")], [3, 3])

    def test_degrees(self):
        told = some_told()
        for link, end, name, number in (("has", "near", "x", 1), ("has", "far", "x", 2), ("has", "far", "a", 1),
                                        ("paid", "near", "x", 0), ("paid", "near", "b", 1), ("paid", "far", "z", 1)):
            self.assertEqual(told.degree(link, end, name), number)
            self.assertEqual(told.degree(name=name, end=end, link=link), number)

    def test_lists_can_be_changed(self):
        told = some_told()
        pairs = [("x", "x")]
        told["has"] = pairs
        pairs.append(("b", "x"))
        told["has"].clear()
        told.rows("order").clear()
        self.assertEqual([told["has"], told.rows("order")], [[("x", "x")], ["x", "b", "a"]])

    def test_refused_links(self):
        told = some_told()
        for value in strange_values() + own_things() + ["order"]:
            self.refused(UnknownLink, value, put, told, value, 5)
            self.refused(UnknownLink, value, told.__getitem__, value)
            self.refused(UnknownLink, value, told.degree, value, "x", 5)
            if value != "near":
                self.refused(InvalidEnd, value, told.degree, "has", value, 5)
            if value == "a":
                continue
            error = self.raised(UnknownRow, told.degree, "has", "near", value)
            self.assertEqual(error.value, ("order", value))
            error = self.raised(UnknownRow, told.degree, name=value, end="far", link="paid")
            self.assertEqual(error.value, ("bill", value))
        self.assertEqual(self.raised(UnknownRow, told.degree, "has", "near", "z").value, ("order", "z"))

    def wrong_pairs(self, told, link, pairs, position):
        before = state(told)
        error = self.raised(InvalidPairs, put, told, link, pairs)
        self.assertEqual((error.link, error.position), (link, position))
        self.assertEqual(state(told), before)

    def test_refused_pairs(self):
        told = some_told()
        for value in strange_values() + own_things():
            if not isinstance(value, (list, tuple)):
                self.wrong_pairs(told, "has", value, None)
            self.wrong_pairs(told, "has", [("x", "x"), value], 1)
            if value != "a":
                self.wrong_pairs(told, "has", [("x", value)], 0)
                self.wrong_pairs(told, "has", [(value, "x"), 5], 0)
        for pairs, position in (([["x", "x"]], 0), ([("x",)], 0), ([("x", "x", "x")], 0), ([("x", "x"), ("x", "x")], 1),
                                ([("x", "z")], 0), ([("z", "x")], 0), ([("x", "x"), ("a", "b"), ("x", "x")], 1),
                                ((("a", "a"), ("x", "x"), ("b", "b")), 2), ({("x", "x"): 1}, None), ("xx", None)):
            self.wrong_pairs(told, "has", pairs, position)
        self.wrong_pairs(told, "paid", [("x", "z"), ("z", "x")], 1)

    def test_40_pairs(self):
        told = Told(circle())
        for name in "abcdefg":
            told += ("a", name)
        every = [(near, far) for near in "abcdefg" for far in "abcdefg"]
        told["l"] = every[:40]
        self.assertEqual(told["l"], every[:40])
        before = state(told)
        for many in (41, 49):
            error = self.raised(TooMany, put, told, "l", every[:many])
            self.assertEqual((error.what, error.limit), ("pairs", 40))
        self.wrong_pairs(told, "l", every[:45] + [("a", "a")], 45)
        self.assertEqual(state(told), before)
        told["l"] = every[9:]
        self.assertEqual(len(told["l"]), 40)


class Wishes(Checks, unittest.TestCase):
    def test_assigned(self):
        told = some_told()
        for number, wish in enumerate(({"order": 1, "line": 2, "bill": 3}, {"bill": 0, "line": SIXTY, "order": 0})):
            for sizes in (wish, Sizes(wish)):
                told.wished = {kind: 0 for kind in wish}
                told.wished = sizes
                self.assertEqual(told.wished, Sizes(wish))
                self.assertIs(type(told.wished), Sizes)
                told.wished = {kind: 7 for kind in wish}
                self.assertIsNone(told.set_wished(sizes) if number else told.set_wished(sizes=sizes))
                self.assertEqual(told.wished, Sizes(wish))
        self.assertEqual(told.rows("order"), ["x", "b", "a"])

    def test_what_was_passed_can_be_changed(self):
        told, wish = Told(Model(["a"])), {"a": 5}
        told.wished = wish
        wish["a"] = 6
        told.wished.counts()["a"] = 7
        self.assertEqual(told.wished, Sizes({"a": 5}))

    def test_refused(self):
        told = some_told()
        told.wished = {"order": 1, "line": 2, "bill": 3}
        before = state(told)
        for value in wrong_sizes(["order", "line", "bill"]):
            self.refused(InvalidSizes, value, told.set_wished, value)
            self.refused(InvalidSizes, value, told.set_wished, sizes=value)
            self.refused(InvalidSizes, value, told.__class__.wished.fset, told, value)
        self.assertEqual(state(told), before)

    def test_the_model_cannot_be_assigned(self):
        told = some_told()
        with self.assertRaises(AttributeError):
            told.model = shop()


class Copies(unittest.TestCase):
    def test_copies(self):
        told = some_told()
        told.wished = {"order": 1, "line": 2, "bill": 3}
        twin = told.copy()
        self.assertIs(type(twin), Told)
        self.assertIsNot(twin, told)
        self.assertEqual(state(twin), state(told))
        before = state(told)
        twin += ("order", "new")
        twin -= ("line", "x")
        twin["paid"] = [("new", "z")]
        twin.wished = {"order": 9, "line": 9, "bill": 9}
        self.assertEqual(state(told), before)
        before = state(twin)
        told -= ("order", "x")
        told.wished = {"order": 0, "line": 0, "bill": 0}
        self.assertEqual(state(twin), before)


class Trials(Checks, unittest.TestCase):
    def setUp(self):
        self.told = some_told()
        self.told.wished = {"order": 1, "line": 2, "bill": 3}
        self.before = state(self.told)

    def tearDown(self):
        self.assertEqual(state(self.told), self.before)

    def change(self, told):
        told += ("order", "new")
        told -= ("line", "x")
        told["paid"] = [("new", "z"), ("b", "z")]
        told.wished = {"order": 9, "line": 9, "bill": 9}
        return state(told)

    def test_changes_are_taken_back(self):
        with self.told.trying() as given:
            self.assertIs(given, self.told)
            self.change(self.told)
            self.assertEqual(self.told.rows("order"), ["x", "b", "a", "new"])

    def test_each_change_alone(self):
        with self.told.trying():
            self.told += ("order", "new")
        self.tearDown()
        with self.told.trying():
            self.told -= ("order", "x")
        self.tearDown()
        with self.told.trying():
            self.told["has"] = []
        self.tearDown()
        with self.told.trying():
            self.told.wished = {"order": 0, "line": 0, "bill": 0}
        self.tearDown()
        with self.told.trying():
            self.told.set_wished({"order": 0, "line": 0, "bill": 0})

    def test_trials_within_trials(self):
        with self.told.trying() as told:
            told -= ("bill", "z")
            first = state(told)
            with self.told.trying():
                told["has"] = []
                second = state(told)
                with told.trying():
                    told -= ("order", "b")
                self.assertEqual(state(told), second)
            self.assertEqual(state(told), first)
            told += ("bill", "y")
            self.assertEqual(told.rows("bill"), ["y"])

    def test_an_error_ends_one(self):
        with self.assertRaises(ZeroDivisionError):
            with self.told.trying():
                self.change(self.told)
                raise ZeroDivisionError
        self.tearDown()
        with self.assertRaises(UnknownRow) as caught:
            with self.told.trying() as told:
                told -= ("order", "x")
                told -= ("order", "x")
        self.assertEqual(caught.exception.value, ("order", "x"))

    def test_errors_caught_behind_an_inner_trial(self):
        with self.told.trying() as told:
            told += ("order", "new")
            first = state(told)
            try:
                with told.trying():
                    told["has"] = [("new", "x")]
                    told["has"] = [("new", "nothing")]
            except InvalidPairs as error:
                self.assertEqual((error.link, error.position), ("has", 0))
            self.assertEqual(state(told), first)
            told["has"] = [("new", "x")]

    def test_tried_by(self):
        told = self.told.copy()
        wanted = self.change(told)
        self.assertEqual(self.told.tried_by(self.change), wanted)
        self.tearDown()
        self.assertEqual(self.told.tried_by(deed=self.change), wanted)
        self.assertIs(self.told.tried_by(lambda given: given), self.told)
        self.assertEqual(self.told.tried_by(lambda given: [given.tried_by(self.change), state(given)]),
                         [wanted, self.before])
        self.refused(UnknownRow, 5, self.told.tried_by, lambda given: [self.change(given), take(given, 5)])
        self.assertRaises(ZeroDivisionError, self.told.tried_by, lambda given: 1 // 0)

    def test_copies_made_in_a_trial_stay(self):
        with self.told.trying() as told:
            self.change(told)
            twin, wanted = told.copy(), state(told)
        self.assertEqual(state(twin), wanted)


if __name__ == "__main__":
    unittest.main()
