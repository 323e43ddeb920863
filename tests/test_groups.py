"""Stiff steps, their rings, and the groups of kinds with fixed ratios."""

import math
import unittest
from fractions import Fraction

from howmanyeach.errors import InvalidEnd, InvalidModel, UnknownLink
from howmanyeach.leads import is_ring, product_of
from howmanyeach.manys import Many
from howmanyeach.models import Model
from howmanyeach.ratios import Ratio
from howmanyeach.rings import groups_of, is_stiff, stiff_ring
from tests import oracle
from tests.helpers import Checks, own_things, shop, strange_values
from tests.test_rings import around, sick

ONE = Many.just(1)


def wanted_groups(model):
    """The groups, from the least sizes for very many of a kind."""
    full = [kind for kind in model.kinds() if oracle.is_full(model, kind)]
    groups = []
    for kind in full:
        tied = [other for other in full if oracle.low(model, kind, other) * oracle.low(model, other, kind) == 1]
        ratios = [oracle.low(model, kind, other) for other in tied]
        whole = math.lcm(*[ratio.denominator for ratio in ratios])
        numbers = [int(ratio * whole) for ratio in ratios]
        divisor = math.gcd(*numbers)
        group = (tuple(tied), tuple(number // divisor for number in numbers))
        if group not in groups:
            groups.append(group)
    return sorted(groups)


class SomeModels(unittest.TestCase):
    def check(self, model):
        groups = groups_of(model)
        self.assertEqual(groups, wanted_groups(model))
        self.assertEqual(groups_of(model=model), groups)
        steps = oracle.steps(model)
        stiff = []
        for link in model.links():
            for end in ("near", "far"):
                kind, goal, weight = steps.get((link, end), (None, None, None))
                is_it = (weight is not None and oracle.is_full(model, kind)
                         and weight * oracle.low(model, goal, kind) == 1)
                self.assertIs(is_stiff(model, link, end), is_it)
                ring = stiff_ring(model, link, end)
                self.assertIs(ring is not None, is_it)
                if is_it:
                    self.assertIs(type(ring), list)
                    self.assertEqual(ring[0], (link, end))
                    self.assertEqual(oracle.follow(model, kind, ring), (kind, Fraction(1)))
                    stiff.append((link, end))
        return groups, stiff

    def test_small_ones(self):
        found = [self.check(model) for model in oracle.some_models(400, 8)]
        self.assertGreater(len([1 for groups, stiff in found if stiff]), 50)
        self.assertGreater(len([1 for groups, stiff in found if len(groups) > 1]), 50)
        self.assertGreater(len({vector for groups, stiff in found for kinds, vector in groups}), 6)

    def test_larger_ones(self):
        found = [self.check(model) for model in oracle.some_models(150, 9, 5, 7, 6)]
        self.assertGreater(len([1 for groups, stiff in found if stiff]), 20)

    def test_rings_through_five_kinds(self):
        groups, stiff = self.check(around(2, 1, 3, 2, 1, 1, 5, 4, 1, 4))
        self.assertEqual(groups, [((kind,), (1,)) for kind in "abcde"])
        groups, stiff = self.check(around(2, 1, 3, 2, 1, 1, 4, 3, 1, 4))
        self.assertEqual(groups, [(("a", "b", "c", "d", "e"), (1, 2, 3, 3, 4))])
        self.assertEqual(stiff, [(link, "near") for link in "lmnop"])
        groups, stiff = self.check(around(2, 3, 5, 6, 3, 5, 5, 2, 6, 5))
        self.assertEqual(groups, [(("a", "b", "c", "d", "e"), (18, 12, 10, 6, 15))])


class ByHand(unittest.TestCase):
    def test_the_document(self):
        pairs = Model(["a", "b"], {"l": ("a", Many(2, 5), "b", Many(1, 2)), "m": ("a", ONE, "b", ONE)})
        self.assertEqual(groups_of(pairs), [(("a", "b"), (1, 1))])
        self.assertEqual(groups_of(shop()), [(("bill",), (1,)), (("line",), (1,)), (("order",), (1,))])
        self.assertTrue(is_stiff(pairs, "l", "near"))
        self.assertFalse(is_stiff(pairs, "l", "far"))
        self.assertTrue(is_stiff(end="far", link="m", model=pairs))
        ring = stiff_ring(end="near", link="l", model=pairs)
        self.assertEqual(ring[0], ("l", "near"))
        self.assertTrue(is_ring(pairs, "a", ring))
        self.assertEqual(product_of(pairs, "a", ring), Ratio(1))

    def test_a_vector(self):
        model = Model(list("abc"), {"l": ("a", Many.just(4), "b", Many.just(6)), "m": ("b", ONE, "c", Many.just(4))})
        self.assertEqual(groups_of(model), [(("a", "b", "c"), (6, 4, 1))])
        self.assertEqual(groups_of(model.without("l")), [(("a",), (1,)), (("b", "c"), (4, 1))])
        self.assertEqual(groups_of(Model(["b", "a"])), [(("a",), (1,)), (("b",), (1,))])

    def test_groups_behind_each_other(self):
        model = Model(list("abcd"), {"l": ("a", ONE, "d", Many.just(2)), "m": ("b", Many.just(3), "c", ONE)})
        self.assertEqual(groups_of(model), [(("a", "d"), (2, 1)), (("b", "c"), (1, 3))])

    def test_kinds_and_groups_are_sorted(self):
        model = Model(list("abcde"), {"l": ("a", ONE, "e", Many.just(2)), "m": ("a", ONE, "c", Many.just(3)),
                                      "n": ("d", Many.just(5), "b", ONE)})
        self.assertEqual(groups_of(model), [(("a", "c", "e"), (6, 2, 3)), (("b", "d"), (5, 1))])

    def test_empty_kinds(self):
        self.assertEqual(groups_of(sick()), [(("e",), (1,))])
        for link in "klmno":
            for end in ("near", "far"):
                self.assertIs(is_stiff(sick(), link, end), False)
                self.assertIsNone(stiff_ring(sick(), link, end))
        self.assertEqual(stiff_ring(sick(), "p", "far"), [("p", "far")])
        nothing = Model(["a"], {"l": ("a", ONE, "a", Many(0, 0))})
        self.assertEqual(groups_of(nothing), [])

    def test_no_ring_of_empty_kinds_is_stiff(self):
        model = Model(["a", "b"], {"l": ("a", ONE, "b", ONE), "m": ("a", ONE, "b", Many(0, 0))})
        for end in ("near", "far"):
            self.assertIs(is_stiff(model, "l", end), False)

    def test_no_steps(self):
        model = Model(["a", "b"], {"l": ("a", Many(0, 1), "b", ONE), "m": ("a", Many(1), "b", Many(0))})
        for link in "lm":
            for end in ("near", "far"):
                self.assertIs(is_stiff(model, link, end), False)

    def test_what_is_returned_can_be_changed(self):
        model = around(2, 1, 1, 2)
        stiff_ring(model, "l", "near").clear()
        groups_of(model).clear()
        self.assertEqual(stiff_ring(model, "l", "near"), [("l", "near"), ("m", "near")])
        self.assertEqual(groups_of(model), [(("a", "b"), (1, 2))])


class Refused(Checks, unittest.TestCase):
    def test_each_parameter(self):
        for value in strange_values() + own_things()[:-1]:
            self.refused(InvalidModel, value, groups_of, value)
            self.refused(InvalidModel, value, groups_of, model=value)
            for call in (is_stiff, stiff_ring):
                self.refused(InvalidModel, value, call, value, 1, 2)
                self.refused(UnknownLink, value, call, shop(), value, 2)
                self.refused(UnknownLink, value, call, end=2, link=value, model=shop())
                if value != "near":
                    self.refused(InvalidEnd, value, call, shop(), "has", value)
                    self.refused(InvalidEnd, value, call, end=value, link="paid", model=shop())


if __name__ == "__main__":
    unittest.main()
