"""Why told rows and pairs have no completion."""

import unittest

from howmanyeach.completing import can_complete, is_obstacle, lacks_of, least_completion, obstacle_of
from howmanyeach.errors import InvalidTold, Lacking
from howmanyeach.manys import Many
from howmanyeach.models import Model
from tests import oracle
from tests.brute import Fits, some_tolds, told_with
from tests.helpers import Checks, own_things, shop, strange_values
from tests.test_rings import around, is_paper, sick
from tests.test_told import state

ONE = Many.just(1)


def is_right(told, value):
    """Whether a value of the right form is an obstacle."""
    model = told.model
    if value[0] == "past":
        _, link, end, row = value
        most = model.many_at(link, end).most
        return row in told.rows(model.kind_at(link, end)) and most is not None and told.degree(link, end, row) > most
    if value[0] == "empty":
        return len(told.rows(value[1])) > 0 and is_paper(model, value[1], value[2])
    _, ring, row = value
    kind = oracle.steps(model)[ring[0]][0]
    goal, product = oracle.follow(model, kind, ring)
    if goal != kind or product != 1 or row not in told.rows(kind):
        return False
    return told.degree(*ring[0], row) > model.many_at(*ring[0]).least


class Obstacles(Checks, unittest.TestCase):
    def check(self, told, word):
        before = state(told)
        value = obstacle_of(told)
        self.assertEqual(obstacle_of(told=told), value)
        self.assertIs(can_complete(told), value is None)
        self.assertIs(can_complete(told=told), value is None)
        self.assertEqual(None if value is None else value[0], word)
        for call in (least_completion, lacks_of):
            if value is not None:
                obstacle = self.raised(Lacking, call, told).obstacle
                self.assertTrue(is_right(told, obstacle))
                self.assertEqual(self.raised(Lacking, call, told=told).obstacle, obstacle)
        if value is not None:
            self.assertIs(type(value), tuple)
            self.assertTrue(is_right(told, value))
            self.assertIs(is_obstacle(told, value), True)
            self.assertIs(is_obstacle(value=value, told=told), True)
        self.assertEqual(state(told), before)
        return value

    def test_all_sets_of_pairs(self):
        found = []
        for told in some_tolds(500, 71):
            value = obstacle_of(told)
            self.check(told, None if value is None else value[0])
            fits = Fits(told)
            some = [sizes for sizes in oracle.box(told.model, 4) if fits(sizes)]
            if value is not None:
                self.assertEqual(some, [])
            found.append(value and value[0])
        for word in (None, "past", "empty", "stiff"):
            self.assertGreater(found.count(word), 3, word)

    def test_past(self):
        told = told_with(shop(), {"order": "xyzuvwa", "line": "xy", "bill": "b"}, {"has": "xx yx"})
        self.assertEqual(self.check(told, "past"), ("past", "has", "far", "x"))
        told["has"] = [("x", "x"), ("x", "y")]
        self.check(told, None)
        told["paid"] = [(name, "b") for name in "xyz"]
        self.check(told, None)
        told["paid"] = [(name, "b") for name in "xyzu"]
        self.assertEqual(self.check(told, "past"), ("past", "paid", "far", "b"))
        told = told_with(Model(["a"], {"l": ("a", Many(0, 1), "a", Many(0))}), {"a": "xyz"}, {"l": "yx yy"})
        self.assertEqual(self.check(told, "past"), ("past", "l", "near", "y"))
        told = told_with(Model(["a"], {"l": ("a", Many(0), "a", Many(0, 0))}), {"a": "xyz"}, {"l": "yx"})
        self.assertEqual(self.check(told, "past"), ("past", "l", "far", "x"))

    def test_empty(self):
        for kind in "abcd":
            value = self.check(told_with(sick(), {kind: "x", "e": "y"}), "empty")
            self.assertEqual(value[1], kind)
        self.check(told_with(sick(), {"e": "xyz"}), None)

    def test_stiff(self):
        model = around(2, 3, 3, 5, 5, 2)
        told = told_with(model, {"a": "xy", "b": "uvw"}, {"l": "xu xv"})
        self.check(told, None)
        told["l"] = [("x", "u"), ("x", "v"), ("x", "w")]
        self.assertEqual(self.check(told, "stiff"), ("stiff", [("l", "near"), ("m", "near"), ("n", "near")], "x"))
        # On a ring just below 1 there are rows to spare.
        self.check(told_with(around(2, 3, 3, 5, 5, 3), {"a": "xy", "b": "uvw"}, {"l": "xu xv xw"}), None)
        model = Model(["a"], {"l": ("a", Many(1, 2), "a", Many(0, 1))})
        self.assertEqual(self.check(told_with(model, {"a": "xyz"}, {"l": "xx xy"}), "stiff"), ("stiff", [("l", "near")], "x"))

    def test_wishes_have_no_bearing(self):
        told = told_with(sick(), {"e": "x"}, wished={"a": 1, "c": 5})
        self.check_without_least(told)

    def check_without_least(self, told):
        self.assertIsNone(obstacle_of(told))
        self.assertIs(can_complete(told), True)
        self.assertEqual(lacks_of(told)["e"], 1)

    def test_refused(self):
        for value in strange_values() + own_things():
            for call in (obstacle_of, can_complete, least_completion, lacks_of):
                self.refused(InvalidTold, value, call, value)
                self.refused(InvalidTold, value, call, told=value)
            self.refused(InvalidTold, value, is_obstacle, value, 1)
            self.refused(InvalidTold, value, is_obstacle, value=1, told=value)

    def test_what_is_returned_can_be_changed(self):
        told = told_with(around(2, 3, 3, 5, 5, 2), {"a": "xy", "b": "uvw"}, {"l": "xu xv xw"})
        obstacle_of(told)[1].clear()
        self.check(told, "stiff")


class Judge(Checks, unittest.TestCase):
    def judge(self, told, value, is_it):
        self.assertIs(is_obstacle(told, value), is_it, value)
        self.assertIs(is_obstacle(value=value, told=told), is_it)

    def test_past(self):
        told = told_with(shop(), {"order": "xyzuv", "line": "xy", "bill": "bc"},
                         {"has": "xx yx", "paid": "xb yb zb ub xc"})
        for value, is_it in ((("past", "has", "far", "x"), True), (("past", "paid", "far", "b"), True),
                             (("past", "paid", "near", "x"), True), (("past", "paid", "near", "y"), False),
                             (("past", "has", "far", "y"), False), (("past", "has", "near", "x"), False),
                             (("past", "has", "far", "z"), False), (("past", "hat", "far", "x"), False),
                             (("past", "has", "left", "x"), False), (["past", "has", "far", "x"], False),
                             (("past", "has", "far"), False), (("past", "has", "far", "x", "x"), False),
                             (("empty", "has", "far", "x"), False), (("stiff", "has", "far", "x"), False),
                             (("past", ("has", "far"), "x"), False), (("past", "paid", "far", "c"), False)):
            self.judge(told, value, is_it)
        for value in strange_values() + own_things():
            self.judge(told, value, False)
            self.judge(told, ("past", value, "far", "x"), False)
            self.judge(told, ("past", "has", value, "x"), False)
            self.judge(told, ("past", "has", "far", value), False)
            self.judge(told, (value, "has", "far", "x"), False)

    def test_empty(self):
        told = told_with(sick(), {"a": "x", "c": "y", "e": "z"})
        step, ring = ([], ("k", "near")), ([], [("m", "near")])
        for value, is_it in ((("empty", "a", step), True), (("empty", "c", ring), True), (("empty", "c", ([], [("m", "near")] * 2)), True),
                             (("empty", "c", ([("m", "far")], [("m", "near")])), True), (("empty", "b", ([("l", "near")], step[1])), False),
                             (("empty", "e", step), False), (("empty", "a", ring), False), (("empty", "c", step), False),
                             (("empty", "d", ([("n", "near")], ring[1])), False), (("empty", "a", list(step)), False),
                             (("empty", "a"), False), (["empty", "a", step], False), (("past", "a", step), False),
                             (("empty", "a", step, step), False), (("empty", "c", ((), (("m", "near"),))), True)):
            self.judge(told, value, is_it)
        for value in strange_values() + own_things():
            if value != "a":
                self.judge(told, ("empty", value, step), False)
            self.judge(told, ("empty", "a", value), False)
            self.judge(told, (value, "a", step), False)

    def test_stiff(self):
        told = told_with(around(2, 3, 3, 5, 5, 2), {"a": "xy", "b": "uvw", "c": "x"}, {"l": "xu xv xw yu"})
        ring = [("l", "near"), ("m", "near"), ("n", "near")]
        for value, is_it in ((("stiff", ring, "x"), True), (("stiff", tuple(ring), "x"), True), (("stiff", ring * 2, "x"), True),
                             (("stiff", ring, "y"), False), (("stiff", ring, "z"), False), (("stiff", ring, "u"), False),
                             (("stiff", ring[1:] + ring[:1], "x"), False), (("stiff", ring[1:] + ring[:1], "u"), False),
                             (("stiff", ring[:2], "x"), False), (("stiff", [], "x"), False), (("stiff", (), "x"), False),
                             (("stiff", [list(step) for step in ring], "x"), False), (["stiff", ring, "x"], False),
                             (("stiff", ring), False), (("stiff", ring, "x", "x"), False), (("empty", ring, "x"), False),
                             (("stiff", ring[0], "x"), False), (("stiff", {step: 1 for step in ring}, "x"), False)):
            self.judge(told, value, is_it)
        for value in strange_values() + own_things():
            self.judge(told, ("stiff", value, "x"), False)
            self.judge(told, ("stiff", ring, value), False)
            self.judge(told, ("stiff", [value] + ring[1:], "x"), False)
            self.judge(told, ("stiff", ring[:2] + [value], "x"), False)
        # Rows of c need five partners: x has none yet, and one with six would be one too many.
        told = told_with(around(2, 3, 3, 5, 5, 2), {"a": "uvwxyz", "c": "x"}, {"n": "xu xv xw xx xy"})
        self.judge(told, ("stiff", ring[2:] + ring[:2], "x"), False)
        told["n"] = [("x", name) for name in "uvwxyz"]
        self.judge(told, ("stiff", ring[2:] + ring[:2], "x"), True)
        self.judge(told, ("stiff", ring, "x"), False)

    def test_a_product_that_is_not_1(self):
        for numbers in ((2, 3, 3, 5, 5, 3), (2, 3, 3, 5, 5, 1)):
            told = told_with(around(*numbers), {"a": "xy", "b": "uvw"}, {"l": "xu xv xw"})
            self.judge(told, ("stiff", [("l", "near"), ("m", "near"), ("n", "near")], "x"), False)


if __name__ == "__main__":
    unittest.main()
