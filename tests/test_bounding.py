"""Sizes that are let, their totals, the least sizes and their raises."""

import itertools
import random
import unittest

from howmanyeach.bounding import first_gap, is_let, least_sizes, raises_for, totals_of
from howmanyeach.errors import InvalidModel, InvalidSizes, NotLet
from howmanyeach.manys import Many
from howmanyeach.models import Model
from howmanyeach.sizes import Sizes
from tests import oracle
from tests.helpers import SIXTY, Checks, own_things, shop, strange_values, wrong_sizes
from tests.test_rings import around, is_paper, sick

ONE = Many.just(1)


def turned_round(sizes):
    """The same dict, its keys in another sequence."""
    return {kind: sizes[kind] for kind in reversed(list(sizes))}


def zeros(model, **counts):
    return {**{kind: 0 for kind in model.kinds()}, **counts}


class Let(Checks, unittest.TestCase):
    def check(self, model, sizes, gap):
        for told in (sizes, turned_round(sizes), Sizes(sizes)):
            self.assertEqual(first_gap(model, told), gap)
            self.assertEqual(first_gap(sizes=told, model=model), gap)
            self.assertIs(is_let(model, told), gap is None)
            self.assertIs(is_let(sizes=told, model=model), gap is None)
        if gap is not None:
            for error in (self.raised(NotLet, totals_of, model, sizes),
                          self.raised(NotLet, totals_of, sizes=Sizes(sizes), model=model)):
                self.assertEqual((error.link, error.line), gap)

    def test_all_sets_of_pairs(self):
        found = []
        for model in oracle.some_models(80, 11):
            for sizes in oracle.box(model, 3):
                gap = oracle.gap(model, sizes)
                self.assertIs(gap is None, oracle.is_let(model, sizes))
                self.check(model, sizes, gap)
                if gap is None:
                    self.totals(model, sizes)
                found.append(gap is None)
        self.assertGreater(min(found.count(True), found.count(False)), 300)

    def totals(self, model, sizes):
        wanted = {}
        for link, ends in model.links().items():
            sums = [sum(at_near) for at_near, _ in oracle.let_degrees(sizes, ends)]
            wanted[link] = (min(sums), max(sums))
        for told in (totals_of(model, sizes), totals_of(sizes=Sizes(sizes), model=model)):
            self.assertEqual(list(told.items()), sorted(wanted.items()))
            for pair in told.values():
                self.assertIs(type(pair), tuple)

    def test_each_line(self):
        model = Model(["a", "b"], {"l": ("a", Many(3, 4), "b", Many(2, 5))})
        for a, b, line in ((7, 4, 0), (2, 5, 1), (1, 2, 2), (1, 1, 2), (1, 3, 1), (0, 1, 1), (8, 5, None), (0, 0, None)):
            self.check(model, {"a": a, "b": b}, None if line is None else ("l", line))
        self.check(model.with_many("l", "far", Many(0)), {"a": 1, "b": 2}, ("l", 2))
        self.check(model.with_many("l", "near", Many(0)), {"a": 1, "b": 2}, ("l", 3))
        self.check(model.with_many("l", "near", Many(0)), {"a": 0, "b": 1}, ("l", 3))

    def test_the_first_link(self):
        self.check(shop(), {"order": 1, "line": 6, "bill": 1}, ("paid", 1))
        self.check(shop(), {"order": 1, "line": 7, "bill": 1}, ("has", 1))
        self.check(shop(), {"order": 1, "line": 0, "bill": 0}, ("has", 0))
        links = {name: ("a", ONE, "b", ONE) for name in ("m", "b", "aa", "z")}
        self.check(Model(["a", "b"], links), {"a": 1, "b": 2}, ("aa", 1))

    def test_a_kind_with_itself(self):
        model = Model(["a"], {"l": ("a", Many(3), "a", Many(1, 3))})
        for number, gap in ((0, None), (1, ("l", 2)), (2, ("l", 2)), (3, None), (SIXTY, None)):
            self.check(model, {"a": number}, gap)
        self.check(model.with_many("l", "far", Many(1, 2)), {"a": 5}, ("l", 0))
        self.check(model.with_many("l", "far", Many(4)).with_many("l", "near", Many(1)), {"a": 3}, ("l", 3))

    def test_without_links(self):
        self.check(Model(["b", "a"]), {"b": SIXTY, "a": 0}, None)
        self.assertEqual(totals_of(Model(["a"]), {"a": 5}), {})

    def test_many_digits(self):
        model = Model(["a", "b"], {"l": ("a", Many(2, 3), "b", Many(1, 3)), "k": ("b", Many(0, 1), "a", Many(0))})
        self.check(model, {"a": 3 * SIXTY, "b": 2 * SIXTY}, None)
        self.check(model, {"a": 3 * SIXTY, "b": 2 * SIXTY - 1}, ("l", 0))
        self.check(model, {"a": 3 * SIXTY, "b": 9 * SIXTY}, None)
        self.check(model, {"a": 3 * SIXTY, "b": 9 * SIXTY + 1}, ("l", 1))
        self.assertEqual(totals_of(model, {"a": 3 * SIXTY, "b": 4 * SIXTY}),
                         {"k": (0, 4 * SIXTY), "l": (6 * SIXTY, 9 * SIXTY)})
        self.assertEqual(totals_of(model.with_many("k", "near", Many(0)), {"a": 3 * SIXTY, "b": 4 * SIXTY})["k"],
                         (0, 12 * SIXTY * SIXTY))


class Least(Checks, unittest.TestCase):
    def check(self, model, told, raises, least):
        for sizes in (told, turned_round(told), Sizes(told)):
            self.assertEqual(raises_for(model, sizes), raises)
            self.assertEqual(raises_for(sizes=sizes, model=model), raises)
            self.assertEqual(least_sizes(model, sizes), Sizes(least))
            self.assertEqual(least_sizes(sizes=sizes, model=model), Sizes(least))
        self.assertIs(type(least_sizes(model, told)), Sizes)
        for entry in raises_for(model, told):
            self.assertIs(type(entry), tuple)

    def test_all_sizes_in_a_box(self):
        many_raises = []
        for model in oracle.some_models(80, 12):
            let = [sizes for sizes in oracle.box(model, 8) if oracle.gap(model, sizes) is None]
            empty = [kind for kind in model.kinds() if not oracle.is_full(model, kind)]
            for told in oracle.box(model, 2):
                above = [kind for kind in empty if told[kind]]
                if above:
                    for call in (least_sizes, raises_for):
                        self.empty(above[0], lambda paper: is_paper(model, above[0], paper), call, model, told)
                    continue
                raises, least = oracle.raises(model, told)
                self.check(model, told, raises, least)
                many_raises.append(len(raises))
                over = [sizes for sizes in let if all(sizes[kind] >= told[kind] for kind in told)]
                if over:
                    self.assertEqual({kind: min(sizes[kind] for sizes in over) for kind in told}, least)
        self.assertGreater(many_raises.count(0), 50)
        self.assertGreater(max(many_raises), 4)

    def test_some_larger_models(self):
        found = 0
        chance = random.Random(5)
        for model in [*oracle.some_models(100, 13, 5, 8, 6), *oracle.ring_models(100, 14)]:
            full = [kind for kind in model.kinds() if oracle.is_full(model, kind)]
            told = zeros(model, **{kind: chance.choice([0, 0, 1, chance.randint(0, 40)]) for kind in full})
            raises, least = oracle.raises(model, told)
            self.check(model, told, raises, least)
            found = max(found, len(raises))
        self.assertGreater(found, 15)

    def test_by_hand(self):
        self.check(shop(), zeros(shop(), order=10), [("has", 0, 10), ("paid", 0, 4)],
                   {"bill": 4, "line": 10, "order": 10})
        self.check(shop(), zeros(shop(), order=1), [("has", 0, 1), ("paid", 0, 1), ("paid", 1, 2), ("has", 0, 2)],
                   {"bill": 1, "line": 2, "order": 2})
        self.check(shop(), zeros(shop()), [], zeros(shop()))
        self.check(shop(), {"order": 2, "line": 5, "bill": 1}, [], {"order": 2, "line": 5, "bill": 1})

    def test_each_line(self):
        model = Model(["a", "b"], {"l": ("a", Many(3), "b", Many(2))})
        self.check(model, {"a": 1, "b": 0}, [("l", 2, 3), ("l", 3, 2)], {"a": 2, "b": 3})
        self.check(model, {"a": 0, "b": 1}, [("l", 3, 2), ("l", 2, 3)], {"a": 2, "b": 3})
        model = Model(["a", "b"], {"l": ("a", Many(3, 6), "b", Many(2, 3))})
        self.check(model, {"a": 4, "b": 0}, [("l", 0, 4)], {"a": 4, "b": 4})
        self.check(model, {"a": 0, "b": 7}, [("l", 1, 3)], {"a": 3, "b": 7})

    def test_a_kind_with_itself(self):
        model = Model(["a"], {"l": ("a", Many(3), "a", Many(1, 4))})
        self.check(model, {"a": 1}, [("l", 2, 3)], {"a": 3})
        self.check(model.with_many("l", "far", Many(5)), {"a": 1}, [("l", 2, 3), ("l", 3, 5)], {"a": 5})
        self.check(model, {"a": SIXTY}, [], {"a": SIXTY})

    def test_a_ring_with_the_product_1(self):
        model = around(2, 3, 3, 5, 5, 2)
        raises, least = oracle.raises(model, {"a": 1, "b": 0, "c": 0})
        self.assertEqual(least, {"a": 15, "b": 10, "c": 6})
        self.check(model, {"a": 1, "b": 0, "c": 0}, raises, least)
        self.assertEqual(least_sizes(model, {"a": 15 * 10 ** 17 - 3, "b": 5, "c": 0}),
                         Sizes({"a": 15 * 10 ** 17, "b": 10 ** 18, "c": 6 * 10 ** 17}))
        self.assertEqual(least_sizes(model, {"a": 0, "b": 0, "c": 6 * SIXTY - 5}),
                         Sizes({"a": 15 * SIXTY, "b": 10 * SIXTY, "c": 6 * SIXTY}))

    def test_a_ring_just_below_1(self):
        for numbers in ((5, 6, 4, 3, 4, 5, 4, 6, 5, 3), (4, 6, 4, 3, 5, 3, 4, 6, 6, 6), (4, 6, 6, 6, 5, 3, 4, 3, 4, 6)):
            model = around(*numbers)
            for told in ({"a": 1}, {"e": 7}, {"b": 3, "d": 50}, {"c": 1000}):
                raises, least = oracle.raises(model, zeros(model, **told))
                self.check(model, zeros(model, **told), raises, least)
            self.assertGreater(len(raises_for(model, zeros(model, a=1))), 30)

    def test_many_digits(self):
        model = around(4, 3, 4, 3, 4, 6, 5, 6, 6, 6)
        for number in (123456789012345678, 10 ** 17, SIXTY, 10 ** 50):
            told = zeros(model, a=number)
            least = least_sizes(model, told)
            self.assertTrue(is_let(model, least))
            self.assertEqual(least.counts(), oracle.least(model, told, bound=10 ** 70))
            self.assertEqual(least["b"], -(-number * 4 // 3))
            self.assertEqual(raises_for(model, told)[0], ("l", 0, -(-number * 4 // 3)))
        self.check(shop(), zeros(shop(), bill=SIXTY), [("paid", 1, 2 * SIXTY), ("has", 0, 2 * SIXTY)],
                   {"bill": SIXTY, "line": 2 * SIXTY, "order": 2 * SIXTY})

    def test_empty_kinds(self):
        for told, kind in (({"d": 1, "b": 1}, "b"), ({"c": SIXTY}, "c"), ({"a": 1, "e": 0}, "a"), ({"d": 1, "e": 9}, "d")):
            for call in (least_sizes, raises_for):
                self.empty(kind, lambda paper: is_paper(sick(), kind, paper), call, sick(), zeros(sick(), **told))
                self.empty(kind, lambda paper: is_paper(sick(), kind, paper), call, model=sick(),
                           sizes=Sizes(zeros(sick(), **told)))
        self.check(sick(), zeros(sick(), e=1), [("p", 2, 2)], zeros(sick(), e=2))

    def test_what_is_returned_can_be_changed(self):
        told = raises_for(shop(), zeros(shop(), order=1))
        told.clear()
        self.assertEqual(len(raises_for(shop(), zeros(shop(), order=1))), 4)
        told = totals_of(shop(), {"order": 2, "line": 5, "bill": 1})
        told.clear()
        self.assertEqual(totals_of(shop(), {"order": 2, "line": 5, "bill": 1}), {"has": (5, 5), "paid": (2, 2)})


class Refused(Checks, unittest.TestCase):
    CALLS = (is_let, first_gap, totals_of, least_sizes, raises_for)

    def test_models(self):
        for value, call in itertools.product(strange_values() + own_things()[:-1], self.CALLS):
            self.refused(InvalidModel, value, call, value, {"a": -1})
            self.refused(InvalidModel, value, call, sizes=5, model=value)

    def test_sizes(self):
        for model in (shop(), sick()):
            for value, call in itertools.product(wrong_sizes(model.kinds()), self.CALLS):
                self.refused(InvalidSizes, value, call, model, value)
                self.refused(InvalidSizes, value, call, sizes=value, model=model)


if __name__ == "__main__":
    unittest.main()
