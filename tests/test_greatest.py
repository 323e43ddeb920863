"""The greatest sizes within a room, and the lowerings that lead there."""

import itertools
import random
import unittest

from howmanyeach.bounding import greatest_sizes, is_let, lowerings_for
from howmanyeach.errors import InvalidModel, InvalidSizes
from howmanyeach.manys import Many
from howmanyeach.models import Model
from howmanyeach.sizes import Sizes
from tests import oracle
from tests.helpers import SIXTY, Checks, own_things, shop, strange_values, wrong_sizes
from tests.test_bounding import turned_round, zeros
from tests.test_rings import around, sick


class Greatest(Checks, unittest.TestCase):
    def check(self, model, room, lowerings, greatest):
        for told in (room, turned_round(room), Sizes(room)):
            self.assertEqual(lowerings_for(model, told), lowerings)
            self.assertEqual(lowerings_for(room=told, model=model), lowerings)
            self.assertEqual(greatest_sizes(model, told), Sizes(greatest))
            self.assertEqual(greatest_sizes(room=told, model=model), Sizes(greatest))
        self.assertIs(type(greatest_sizes(model, room)), Sizes)
        for entry in lowerings_for(model, room):
            self.assertIs(type(entry), tuple)

    def test_all_sizes_in_a_box(self):
        many_lowerings = []
        for model in oracle.some_models(80, 31):
            let = [sizes for sizes in oracle.box(model, 4) if oracle.is_let(model, sizes)] if len(model) < 3 else [
                sizes for sizes in oracle.box(model, 4) if oracle.gap(model, sizes) is None]
            for room in oracle.box(model, 4):
                lowerings, greatest = oracle.lowerings(model, room)
                within = [sizes for sizes in let if all(sizes[kind] <= room[kind] for kind in room)]
                self.assertEqual({kind: max(sizes[kind] for sizes in within) for kind in room}, greatest)
                self.check(model, room, lowerings, greatest)
                many_lowerings.append(len(lowerings))
        self.assertGreater(many_lowerings.count(0), 50)
        self.assertGreater(max(many_lowerings), 2)

    def test_some_larger_models(self):
        found = 0
        chance = random.Random(32)
        for model in [*oracle.some_models(100, 33, 5, 8, 6), *oracle.ring_models(100, 34)]:
            room = {kind: chance.randint(0, 60) for kind in model.kinds()}
            lowerings, greatest = oracle.lowerings(model, room)
            self.check(model, room, lowerings, greatest)
            found = max(found, len(lowerings))
        self.assertGreater(found, 12)

    def test_by_hand(self):
        self.check(shop(), {"order": 9, "line": 3, "bill": 9}, [("has", 0, 3), ("paid", 1, 1)],
                   {"order": 3, "line": 3, "bill": 1})
        self.check(shop(), {"order": 9, "line": 99, "bill": 3}, [("has", 1, 54)], {"order": 9, "line": 54, "bill": 3})
        self.check(shop(), {"order": 9, "line": 9, "bill": 3}, [], {"order": 9, "line": 9, "bill": 3})
        self.check(shop(), zeros(shop()), [], zeros(shop()))
        self.check(shop(), {"order": 1, "line": 9, "bill": 3},
                   [("has", 1, 6), ("paid", 1, 0), ("paid", 2, 0), ("has", 1, 0)], zeros(shop()))

    def test_each_line(self):
        model = Model(["a", "b"], {"l": ("a", Many(3), "b", Many(2))})
        self.check(model, {"a": 5, "b": 2}, [("l", 2, 0), ("l", 3, 0)], {"a": 0, "b": 0})
        self.check(model, {"a": 1, "b": 9}, [("l", 3, 0), ("l", 2, 0)], {"a": 0, "b": 0})
        self.check(model, {"a": 2, "b": 3}, [], {"a": 2, "b": 3})
        model = Model(["a", "b"], {"l": ("a", Many(3, 6), "b", Many(2, 4))})
        self.check(model, {"a": 9, "b": 5}, [("l", 0, 6)], {"a": 6, "b": 5})
        self.check(model, {"a": 3, "b": 11}, [("l", 1, 9)], {"a": 3, "b": 9})

    def test_a_kind_with_itself(self):
        model = Model(["a"], {"l": ("a", Many(3), "a", Many(1, 4))})
        for number, lowerings in ((2, [("l", 2, 0)]), (3, []), (SIXTY, []), (0, [])):
            self.check(model, {"a": number}, lowerings, {"a": 0 if lowerings else number})
        self.check(model.with_many("l", "far", Many(4)).with_many("l", "near", Many(1)), {"a": 3}, [("l", 3, 0)], {"a": 0})

    def test_empty_kinds_first(self):
        self.check(sick(), {kind: 5 for kind in "abcde"}, [(None, kind, 0) for kind in "abcd"], zeros(sick(), e=5))
        self.check(sick(), {"a": 0, "b": 5, "c": 0, "d": SIXTY, "e": 1}, [(None, "b", 0), (None, "d", 0), ("p", 2, 0)],
                   zeros(sick()))
        model = Model(["a", "b"], {"l": ("a", Many(3), "a", Many(0, 2)), "m": ("b", Many(0), "a", Many(1, 1))})
        self.check(model, {"a": 7, "b": 7}, [(None, "a", 0)], {"a": 0, "b": 7})

    def test_a_ring_with_the_product_1(self):
        model = around(2, 3, 3, 5, 5, 2)
        for room in ({"a": 44, "b": 90, "c": 35}, {"a": 14, "b": 90, "c": 35}, {"a": 60, "b": 29, "c": 18}):
            lowerings, greatest = oracle.lowerings(model, room)
            self.check(model, room, lowerings, greatest)
        self.assertEqual(greatest_sizes(model, {"a": 15 * SIXTY + 14, "b": 99 * SIXTY, "c": 6 * SIXTY + 1}),
                         Sizes({"a": 15 * SIXTY, "b": 10 * SIXTY, "c": 6 * SIXTY}))

    def test_a_ring_just_below_1(self):
        for numbers in ((5, 6, 4, 3, 4, 5, 4, 6, 5, 3), (4, 6, 4, 3, 5, 3, 4, 6, 6, 6), (4, 6, 6, 6, 5, 3, 4, 3, 4, 6)):
            model = around(*numbers)
            for number in (20, 40, 60, 80, 200):
                lowerings, greatest = oracle.lowerings(model, {kind: number for kind in "abcde"})
                self.check(model, {kind: number for kind in "abcde"}, lowerings, greatest)

    def test_many_digits(self):
        self.check(shop(), {"order": 9 * SIXTY, "line": 3 * SIXTY, "bill": 9 * SIXTY},
                   [("has", 0, 3 * SIXTY), ("paid", 1, 3 * SIXTY // 2)],
                   {"order": 3 * SIXTY, "line": 3 * SIXTY, "bill": 3 * SIXTY // 2})
        room = {kind: SIXTY for kind in "abcde"}
        greatest = greatest_sizes(around(4, 6, 4, 3, 5, 3, 4, 6, 6, 6), room)
        self.assertTrue(is_let(around(4, 6, 4, 3, 5, 3, 4, 6, 6, 6), greatest))
        self.assertTrue(greatest.is_within(Sizes(room)))
        self.assertIn(SIXTY, greatest.counts().values())

    def test_without_links(self):
        self.check(Model(["b", "a"]), {"a": SIXTY, "b": 1}, [], {"a": SIXTY, "b": 1})

    def test_what_is_returned_can_be_changed(self):
        lowerings_for(shop(), {"order": 9, "line": 3, "bill": 9}).clear()
        self.assertEqual(len(lowerings_for(shop(), {"order": 9, "line": 3, "bill": 9})), 2)

    def test_refused(self):
        for call in (greatest_sizes, lowerings_for):
            for value in strange_values() + own_things()[:-1]:
                self.refused(InvalidModel, value, call, value, 5)
                self.refused(InvalidModel, value, call, room={}, model=value)
            for model, value in itertools.product((shop(), sick()), wrong_sizes(["order", "line", "bill"])):
                self.refused(InvalidSizes, value, call, model, value)
                self.refused(InvalidSizes, value, call, room=value, model=model)


if __name__ == "__main__":
    unittest.main()
