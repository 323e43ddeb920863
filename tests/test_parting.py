"""Rows with so many partners, least sizes with them, and what parts two models."""

import itertools
import unittest

from howmanyeach.errors import (Apart, InvalidCount, InvalidEnd, InvalidModel, InvalidSizes, UnknownLink)
from howmanyeach.manys import Many
from howmanyeach.models import Model
from howmanyeach.normal import is_below, occurring
from howmanyeach.parting import can_have_row, least_with, parting_of
from howmanyeach.sizes import Sizes
from tests import oracle
from tests.helpers import SIXTY, Checks, own_things, shop, strange_values, wrong_sizes
from tests.test_bounding import turned_round
from tests.test_normal import ENDS, pairs, small_models, smaller
from tests.test_rings import around, sick

ONE = Many.just(1)


class CanHaveRow(Checks, unittest.TestCase):
    def check(self, model, sizes, link, end, number, is_it):
        for told in (sizes, turned_round(sizes), Sizes(sizes)):
            self.assertIs(can_have_row(model, told, link, end, number), is_it, (model, sizes, link, end, number))
        self.assertIs(can_have_row(number=number, end=end, link=link, sizes=sizes, model=model), is_it)

    def test_all_sets_of_pairs(self):
        found = []
        for model in oracle.some_models(120, 51, kinds=3, links=3):
            for sizes in oracle.box(model, 3):
                for link, end, number in itertools.product(model.links(), ENDS, range(5)):
                    is_it = oracle.has_row(model, sizes, link, end, number)
                    self.check(model, sizes, link, end, number, is_it)
                    found.append(is_it)
        self.assertGreater(min(found.count(True), found.count(False)), 500)

    def test_all_sets_of_pairs_of_one_link(self):
        for near, far in itertools.product((Many(1, 3), Many(0, 2), Many(2), Many(1, 1), Many(0), Many(2, 4)), repeat=2):
            for model in (Model(["a", "b"], {"l": ("a", near, "b", far)}), Model(["a"], {"l": ("a", near, "a", far)})):
                for sizes in oracle.box(model, 4):
                    if max(sizes.values()) * min(sizes.values()) <= 12 and sum(sizes.values()) < 8:
                        for end, number in itertools.product(ENDS, range(6)):
                            self.check(model, sizes, "l", end, number,
                                       oracle.has_row(model, sizes, "l", end, number))

    def test_each_condition(self):
        model = Model(["a", "b"], {"l": ("a", Many(2, 4), "b", Many(1, 3))})
        for a, b, number, is_it in ((3, 2, 2, True), (3, 2, 3, False), (3, 3, 3, True), (0, 0, 2, False), (1, 3, 2, False),
                                    (1, 3, 3, True), (1, 4, 4, True), (1, 4, 3, False), (2, 7, 3, True), (2, 8, 3, False),
                                    (2, 8, 4, True), (3, 9, 1, False), (3, 9, 5, False), (2, 2, 2, True), (1, 5, 4, False)):
            self.check(model, {"a": a, "b": b}, "l", "near", number, is_it)
            self.check(model.turned("l"), {"a": a, "b": b}, "l", "far", number, is_it)

    def test_many_digits(self):
        model = Model(["a", "b"], {"l": ("a", Many(2, 4), "b", Many(1, 3)), "m": ("a", Many(0), "b", Many(0))})
        for a, b, number, is_it in ((3 * SIXTY, 2 * SIXTY, 2, True), (3 * SIXTY, 2 * SIXTY, 3, False),
                                    (3 * SIXTY, 2 * SIXTY + 1, 4, True), (SIXTY, 4 * SIXTY, 4, True),
                                    (SIXTY, 4 * SIXTY, 3, False), (SIXTY, 4 * SIXTY - 1, 3, True)):
            self.check(model, {"a": a, "b": b}, "l", "near", number, is_it)
        self.check(model, {"a": SIXTY, "b": SIXTY}, "m", "far", SIXTY, True)
        self.check(model, {"a": SIXTY, "b": SIXTY}, "m", "far", SIXTY + 1, False)

    def test_sizes_that_another_link_does_not_let(self):
        self.check(pairs(), {"a": 2, "b": 2}, "l", "near", 2, True)
        self.check(pairs(), {"a": 2, "b": 3}, "l", "near", 2, False)
        self.check(pairs(), {"a": 5, "b": 5}, "l", "near", 3, False)
        self.check(sick(), {"a": 0, "b": 0, "c": 1, "d": 0, "e": 0}, "m", "near", 3, False)

    def test_refused(self):
        sizes = {"order": 3, "line": 3, "bill": 1}
        for value in strange_values() + own_things():
            if not isinstance(value, Model):
                self.refused(InvalidModel, value, can_have_row, value, 1, 1, 1, -1)
            self.refused(UnknownLink, value, can_have_row, shop(), sizes, value, 1, -1)
            if value != "near":
                self.refused(InvalidEnd, value, can_have_row, shop(), sizes, "has", value, -1)
            self.refused(InvalidCount, value, can_have_row, number=value, end="near", link="has", sizes=sizes, model=shop())
        for value in wrong_sizes(["order", "line", "bill"]):
            self.refused(InvalidSizes, value, can_have_row, shop(), value, "x", "y", -1)
            self.refused(InvalidSizes, value, can_have_row, number=1, end="near", link="has", sizes=value, model=shop())


class LeastWith(Checks, unittest.TestCase):
    def check(self, model, link, end, number, least):
        told = least_with(model, link, end, number)
        self.assertIs(type(told), Sizes)
        self.assertEqual(told, Sizes(least))
        self.assertEqual(least_with(number=number, end=end, link=link, model=model), told)

    def test_all_sizes_in_a_box(self):
        found = []
        for model in small_models(52, 150):
            top = 4 if len(model.kinds()) == 1 else 3
            for link, end in itertools.product(model.links(), ENDS):
                many = occurring(model, link, end) if oracle.is_full(model, model.kind_at(link, end)) else ()
                for number in range(6):
                    with_it = [sizes for sizes in oracle.box(model, top) if oracle.has_row(model, sizes, link, end, number)]
                    if number not in many:
                        self.assertEqual(with_it, [])
                        self.refused(InvalidCount, number, least_with, model, link, end, number)
                        continue
                    least = least_with(model, link, end, number)
                    self.assertTrue(can_have_row(model, least, link, end, number))
                    self.assertIs(max(least.counts().values()) <= top, bool(with_it))
                    if with_it:
                        wanted = {kind: min(sizes[kind] for sizes in with_it) for kind in model.kinds()}
                        self.check(model, link, end, number, wanted)
                        found.append(number)
        self.assertGreater(len(found), 300)
        self.assertEqual(sorted(set(found)), [0, 1, 2, 3, 4])

    def test_larger_models(self):
        for model in [*oracle.some_models(60, 53, 4, 6, 6), *oracle.ring_models(40, 54)]:
            for link, end in itertools.product(model.links(), ENDS):
                if oracle.is_full(model, model.kind_at(link, end)):
                    many = occurring(model, link, end)
                    for number in sorted({many.least, many.least + 1, many.most or 5}):
                        if number in many:
                            least = least_with(model, link, end, number)
                            self.assertTrue(can_have_row(model, least, link, end, number))
                            for kind in model.kinds():
                                if least[kind] < 40:
                                    self.fewer(model, link, end, number, least, kind)

    def fewer(self, model, link, end, number, least, kind):
        """With fewer of one kind there is none, whatever there is of the others, within a room."""
        for count in range(least[kind]):
            sizes = Sizes({other: count if other == kind else least[other] for other in model.kinds()})
            self.assertFalse(can_have_row(model, sizes, link, end, number))

    def test_by_hand(self):
        self.check(shop(), "paid", "far", 3, {"bill": 1, "line": 3, "order": 3})
        self.check(shop(), "has", "near", 6, {"bill": 1, "line": 7, "order": 2})
        self.check(shop(), "has", "near", 1, {"bill": 1, "line": 2, "order": 2})
        self.check(pairs(), "l", "near", 2, {"a": 2, "b": 2})

    def test_great_numbers(self):
        model = Model(["a", "b", "c"], {"l": ("a", Many(0), "b", Many(0, 1)), "m": ("b", ONE, "c", Many(0, 3))})
        self.check(model, "l", "near", SIXTY, {"a": 1, "b": SIXTY, "c": -(-SIXTY // 3)})
        self.check(model.with_many("l", "near", Many(2)), "l", "near", SIXTY, {"a": 1, "b": SIXTY, "c": -(-SIXTY // 3)})
        self.check(model.with_many("l", "far", Many(1, 2)), "l", "near", SIXTY, {"a": 1, "b": SIXTY, "c": -(-SIXTY // 3)})
        self.check(model.with_many("l", "far", Many(2, 2)), "l", "near", SIXTY, {"a": 2, "b": SIXTY, "c": -(-SIXTY // 3)})
        model = Model(["a"], {"l": ("a", Many(1), "a", Many(0, 2))})
        self.check(model, "l", "near", SIXTY, {"a": SIXTY})

    def test_great_numbers_on_a_ring_just_below_1(self):
        model = around(4, 6, 4, 3, 5, 3, 4, 6, 6, 6)
        number = 10 ** 40
        least = least_with(model, "l", "near", number)
        self.assertTrue(can_have_row(model, least, "l", "near", number))
        # What the row has beyond 4 comes again and again on the ring: 6 b are at least 4 a and this.
        self.assertGreaterEqual(6 * least["b"], 4 * least["a"] + number - 4)
        self.assertLess(6 * least["b"], 4 * least["a"] + number + 2)
        self.assertGreater(least["b"], 13 * number)

    def test_numbers_that_do_not_occur(self):
        for value in [*strange_values(), *own_things(), 0, 7, SIXTY]:
            self.refused(InvalidCount, value, least_with, shop(), "has", "near", value)
            self.refused(InvalidCount, value, least_with, number=value, end="near", link="has", model=shop())
            # Nothing occurs at an end whose kind is empty.
            self.refused(InvalidCount, value, least_with, sick(), "k", "near", value)
            self.refused(InvalidCount, value, least_with, number=value, end="far", link="m", model=sick())
        for number in (1, 3, 4):
            self.refused(InvalidCount, number, least_with, sick(), "m", "near", number)
        for number in (3, 4, 5):
            self.refused(InvalidCount, number, least_with, pairs(), "l", "near", number)
        self.refused(InvalidCount, 1, least_with, pairs(), "l", "far", 1)
        self.check(sick(), "k", "far", 0, {"a": 0, "b": 0, "c": 0, "d": 0, "e": 2})
        self.refused(InvalidCount, 1, least_with, sick(), "o", "near", 1)

    def test_refused(self):
        for value in strange_values() + own_things():
            if not isinstance(value, Model):
                self.refused(InvalidModel, value, least_with, value, 1, 1, -1)
            self.refused(UnknownLink, value, least_with, shop(), value, 1, -1)
            if value != "near":
                self.refused(InvalidEnd, value, least_with, number=-1, end=value, link="has", model=shop())


class Parting(Checks, unittest.TestCase):
    def wanted(self, one, other):
        for link, end in itertools.product(sorted(one.links()), ENDS):
            if oracle.is_full(one, one.kind_at(link, end)):
                numbers, others = occurring(one, link, end), other.many_at(link, end)
                for number in range(14):
                    if number in numbers and number not in others:
                        return (link, end, number, least_with(one, link, end, number))
        return None

    def test_some_models(self):
        found = []
        for model in [*oracle.some_models(40, 55), *oracle.ring_models(20, 56)]:
            for link, end in itertools.product(model.links(), ENDS):
                least, most = model.many_at(link, end).least, model.many_at(link, end).most
                for many in [Many(0, most), Many(least), Many(least, least), Many(0, 0), Many(3, 4), *smaller(least, most)]:
                    if many.least > 6:
                        continue
                    other = model.with_many(link, end, many)
                    for one, two in ((model, other), (other, model)):
                        parting = parting_of(one, two)
                        self.assertEqual(parting, self.wanted(one, two))
                        self.assertEqual(parting_of(other=two, one=one), parting)
                        self.assertIs(parting is None, is_below(one, two))
                        found.append(parting is None)
        self.assertGreater(min(found.count(True), found.count(False)), 100)

    def test_several_places(self):
        two = Model(["a", "b"], {"m": ("a", Many(0, 4), "b", Many(1, 2)), "l": ("a", Many(0, 4), "b", Many(0, 3))})
        one = Model(["a", "b"], {"m": ("a", Many(0, 5), "b", Many(0, 6)), "l": ("a", Many(0, 6), "b", Many(0, 6))})
        self.assertEqual(parting_of(one, two), ("l", "near", 5, Sizes({"a": 1, "b": 5})))
        one = one.with_many("l", "near", Many(0, 3))
        self.assertEqual(parting_of(one, two), ("l", "far", 4, Sizes({"a": 4, "b": 1})))
        one = one.with_many("l", "far", Many(0, 3))
        self.assertEqual(parting_of(one, two), ("m", "near", 5, Sizes({"a": 1, "b": 5})))
        one = one.with_many("m", "near", Many(0, 4))
        self.assertEqual(parting_of(one, two), ("m", "far", 0, Sizes({"a": 0, "b": 1})))
        one = one.with_many("m", "far", Many(1))
        self.assertEqual(parting_of(one, two), ("m", "far", 3, Sizes({"a": 3, "b": 1})))
        self.assertIsNone(parting_of(one.with_many("m", "far", Many(1, 2)), two))
        self.assertIsNone(parting_of(two, two))

    def test_by_hand(self):
        self.assertEqual(parting_of(shop(), shop().with_many("has", "near", Many(1, 4))),
                         ("has", "near", 5, Sizes({"bill": 1, "line": 6, "order": 2})))
        self.assertIsNone(parting_of(shop().with_many("has", "near", Many(1, 4)), shop()))
        self.assertIsNone(parting_of(Model(["a"]), Model(["a"])))
        parting = parting_of(shop(), shop())
        self.assertIsNone(parting)
        # Nothing occurs at an end of an empty kind, so the first link parts at its far end.
        other = sick().with_many("k", "near", Many(2)).with_many("k", "far", Many(1, 3))
        self.assertEqual(parting_of(sick(), other), ("k", "far", 0, Sizes({"a": 0, "b": 0, "c": 0, "d": 0, "e": 2})))

    def test_refused(self):
        for value in strange_values() + own_things()[:-1]:
            self.refused(InvalidModel, value, parting_of, value, 1)
            self.refused(InvalidModel, value, parting_of, other=value, one=Model(["x"]))
        error = self.raised(Apart, parting_of, shop(), sick())
        self.assertEqual((error.one, error.other), (shop(), sick()))


if __name__ == "__main__":
    unittest.main()
