"""Steps, factors, ways, rings and products."""

import itertools
import unittest
from fractions import Fraction

from howmanyeach.errors import InvalidEnd, InvalidModel, InvalidWay, UnknownKind, UnknownLink
from howmanyeach.leads import factor_of, goal_of, is_broken, is_ring, is_way, product_of, steps_of
from howmanyeach.manys import Many
from howmanyeach.models import Model
from howmanyeach.ratios import Ratio
from tests import oracle
from tests.helpers import Checks, own_things, shop, strange_values

ONE = Many.just(1)


def web():
    """Steps of all sorts: l there and back, m only there, n broken, o without a factor, p from a kind to itself."""
    return Model(["a", "b", "c"], {
        "l": ("a", Many(2, 5), "b", Many(1, 3)), "m": ("b", Many(1), "c", Many(0, 4)),
        "n": ("c", Many(1, 2), "a", Many(0, 0)), "o": ("a", Many(3), "c", Many(0)),
        "p": ("c", Many(2, 2), "c", Many(1, 6)), "q": ("a", Many(0, 3), "b", Many(0))})


def fraction(ratio):
    return Fraction(ratio.top, ratio.bottom)


def all_ways(model, kind, most):
    """All lists of up to so many steps from a kind, each going on from the one ahead: (way, goal, product)."""
    found = [([], kind, Fraction(1))]
    for way, goal, product in found:
        if len(way) < most:
            for step, (start, beyond, weight) in oracle.steps(model).items():
                if start == goal and weight is not None:
                    found.append((way + [step], beyond, product * weight))
    return found


class Steps(unittest.TestCase):
    def test_by_hand(self):
        self.assertEqual(steps_of(web()), [("l", "far"), ("l", "near"), ("m", "near"), ("n", "near"), ("o", "near"),
                                           ("p", "far"), ("p", "near")])
        self.assertEqual(steps_of(model=Model(["a"])), [])
        self.assertEqual(steps_of(shop()), [("has", "far"), ("has", "near"), ("paid", "far"), ("paid", "near")])
        rows = [("l", "near", Ratio(2, 3), False), ("l", "far", Ratio(1, 5), False), ("m", "near", Ratio(1, 4), False),
                ("m", "far", None, False), ("n", "near", None, True), ("n", "far", None, False),
                ("o", "near", None, False), ("o", "far", None, False), ("p", "near", Ratio(1, 3), False),
                ("p", "far", Ratio(1, 2), False), ("q", "near", None, False), ("q", "far", None, False)]
        for link, end, factor, is_it in rows:
            self.assertEqual(factor_of(web(), link, end), factor)
            self.assertEqual(factor_of(end=end, link=link, model=web()), factor)
            self.assertIs(is_broken(web(), link, end), is_it)
            self.assertIs(is_broken(end=end, link=link, model=web()), is_it)

    def test_some_models(self):
        for model in oracle.some_models(300, 2):
            steps = oracle.steps(model)
            self.assertEqual(steps_of(model), sorted(steps))
            for link, end in itertools.product(model.links(), ("near", "far")):
                kind, goal, weight = steps.get((link, end), (None, None, Fraction(0)))
                factor = factor_of(model, link, end)
                self.assertEqual(None if factor is None else fraction(factor), weight or None)
                self.assertIs(is_broken(model, link, end), weight is None)

    def test_what_is_returned_can_be_changed(self):
        model = web()
        steps_of(model).clear()
        self.assertEqual(len(steps_of(model)), 7)


class Ways(Checks, unittest.TestCase):
    def test_ways_of_some_models(self):
        several = 0
        for model in oracle.some_models(80, 3):
            for kind in model.kinds():
                for way, goal, product in all_ways(model, kind, 3):
                    several += 1
                    for told in (way, tuple(way)):
                        self.assertEqual(goal_of(model, kind, told), goal)
                        self.assertEqual(fraction(product_of(model, kind, told)), product)
                        for other in model.kinds():
                            self.assertIs(is_way(model, kind, other, told), goal == other)
                        self.assertIs(is_ring(model, kind, told), goal == kind and len(way) > 0)
        self.assertGreater(several, 1000)

    def test_all_lists_of_two_steps(self):
        for model in (web(), shop()):
            places = list(itertools.product([*model.links(), "x"], ("near", "far")))
            for kind, many in itertools.product(model.kinds(), (1, 2)):
                ways = [way for way, _, _ in all_ways(model, kind, many)]
                for told in itertools.product(places, repeat=many):
                    self.assertIs(any(is_way(model, kind, goal, told) for goal in model.kinds()), list(told) in ways)

    def test_by_hand(self):
        way = [("l", "near"), ("m", "near"), ("p", "near"), ("p", "near"), ("p", "far")]
        self.assertEqual(goal_of(web(), "a", way), "c")
        self.assertEqual(goal_of(way=way[:2], kind="a", model=web()), "c")
        self.assertEqual(product_of(web(), "a", way), Ratio(2 * 1 * 1 * 1 * 1, 3 * 4 * 3 * 3 * 2))
        self.assertEqual(product_of(way=[("o", "near"), ("p", "far")], kind="a", model=web()), Ratio(0))
        self.assertEqual([goal_of(web(), "b", ()), product_of(web(), "b", [])], ["b", Ratio(1)])
        self.assertTrue(is_way(value=way, goal="c", kind="a", model=web()))
        self.assertTrue(is_ring(value=[("p", "near")], kind="c", model=web()))
        self.assertFalse(is_ring(web(), "a", []))
        self.assertFalse(is_ring(web(), "a", [("p", "near")]))
        self.assertTrue(is_ring(web(), "a", [("l", "near"), ("l", "far")] * 100))
        self.assertEqual(product_of(web(), "a", [("l", "near"), ("l", "far")] * 100), Ratio(2 ** 100, 15 ** 100))

    def test_what_is_no_way(self):
        step = ("l", "near")
        values = [value for value in strange_values() + own_things() if value != [] and value != ()]
        values.extend([step, [list(step)], [step, list(("l", "far"))], {step: 1}, {step}, "l", [step, None], [[step]],
                       [("l", "Near")], [("l",)], [("l", "near", 1)], [("l", None)], [(None, "near")], [("x", "near")],
                       [([], "near")], [("l", {})], [step, step], [("l", "far")], [("n", "near")], [("m", "far")],
                       [("o", "near"), ("n", "near")], [("q", "near")], [("l", True)], [step, ("p", "near")]])
        for value in values:
            self.refused(InvalidWay, value, goal_of, web(), "a", value)
            self.refused(InvalidWay, value, goal_of, way=value, kind="a", model=web())
            self.refused(InvalidWay, value, product_of, web(), "a", value)
            self.refused(InvalidWay, value, product_of, way=value, kind="a", model=web())
            for goal in "abc":
                self.assertIs(is_way(web(), "a", goal, value), False)
            self.assertIs(is_ring(web(), "a", value), False)


class Refused(Checks, unittest.TestCase):
    def test_models(self):
        for value in strange_values() + own_things()[:-1]:
            self.refused(InvalidModel, value, steps_of, value)
            self.refused(InvalidModel, value, steps_of, model=value)
            for call in (factor_of, is_broken, goal_of, product_of, is_ring):
                self.refused(InvalidModel, value, call, value, 1, 2)
            self.refused(InvalidModel, value, is_way, value, 1, 2, 3)

    def test_links_and_ends(self):
        for call in (factor_of, is_broken):
            for value in strange_values() + own_things() + ["a"]:
                self.refused(UnknownLink, value, call, web(), value, 1)
                self.refused(UnknownLink, value, call, end=1, link=value, model=web())
                if value != "near":
                    self.refused(InvalidEnd, value, call, web(), "l", value)
                    self.refused(InvalidEnd, value, call, model=web(), end=value, link="n")

    def test_kinds(self):
        for value in strange_values() + own_things() + ["l", "d"]:
            if value != "a":
                for call in (goal_of, product_of):
                    self.refused(UnknownKind, value, call, web(), value, 1)
                    self.refused(UnknownKind, value, call, way=1, kind=value, model=web())
                self.refused(UnknownKind, value, is_ring, web(), value, 1)
                self.refused(UnknownKind, value, is_ring, value=1, kind=value, model=web())
                self.refused(UnknownKind, value, is_way, web(), value, "x", 1)
                self.refused(UnknownKind, value, is_way, web(), "a", value, 1)
                self.refused(UnknownKind, value, is_way, value=[], goal=value, kind="b", model=web())


if __name__ == "__main__":
    unittest.main()
