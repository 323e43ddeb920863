"""The numbers that occur, normal forms, and what they tell of two models."""

import itertools
import unittest

from howmanyeach.errors import Apart, InvalidEnd, InvalidModel, UnknownLink
from howmanyeach.manys import Many
from howmanyeach.models import Model
from howmanyeach.normal import are_alike, are_comparable, idle_numbers, is_below, join_of, normal_form, occurring
from tests import oracle
from tests.helpers import Checks, own_things, shop, strange_values
from tests.test_rings import is_paper, sick

ONE = Many.just(1)
ENDS = ("near", "far")


def pairs():
    """l could have many numbers of partners, but m fixes the ratio."""
    return Model(["a", "b"], {"l": ("a", Many(2, 5), "b", Many(1, 2)), "m": ("a", ONE, "b", ONE)})


def databases_of(model, top):
    """All databases with at most so many rows of a kind, told by sizes and, for each link, numbers of partners."""
    return [(tuple(sorted(sizes.items())), link, numbers) for sizes in oracle.box(model, top)
            if oracle.is_let(model, sizes) for link, ends in [("", None), *model.links().items()]
            for numbers in (oracle.let_degrees(sizes, ends) if ends else [()])]


def small_models(seed, many=60):
    return [model for model in oracle.some_models(many, seed, kinds=2, links=2)]


def smaller(least, most):
    """The Manys that let one number less, at one of both ends; without a most number just the first."""
    found = []
    if most is None or most > least:
        found.append(Many(least + 1, most))
    if most is not None and most > least:
        found.append(Many(least, most - 1))
    return found


class Occurring(Checks, unittest.TestCase):
    def check(self, model, link, end, text):
        self.assertEqual(str(occurring(model, link, end)), text)
        self.assertEqual(str(occurring(end=end, link=link, model=model)), text)

    def test_all_sets_of_pairs(self):
        found = []
        for model in small_models(41, 150):
            let = [sizes for sizes in oracle.box(model, 3) if oracle.is_let(model, sizes)]
            for link, end in itertools.product(model.links(), ENDS):
                kind = model.kind_at(link, end)
                if not oracle.is_full(model, kind):
                    self.empty(kind, lambda paper: is_paper(model, kind, paper), occurring, model, link, end)
                    continue
                many = occurring(model, link, end)
                self.assertIs(type(many), Many)
                self.assertTrue(many.is_within(model.many_at(link, end)))
                numbers = [number for number in range(4)
                           if any(oracle.has_row(model, sizes, link, end, number) for sizes in let)]
                for number in numbers:
                    self.assertIn(number, many)
                if let[-1] != {kind: 0 for kind in let[-1]} and many != model.many_at(link, end):
                    found.append(len(numbers))
        self.assertGreater(len(found), 15)

    def test_each_case(self):
        rest = {"o": ("a", ONE, "b", ONE)}
        self.check(pairs(), "l", "near", "2")
        self.check(pairs(), "l", "far", "2")
        turned = pairs().turned("l")
        self.check(turned, "l", "near", "2")
        self.check(turned, "l", "far", "2")
        # The ratio is the greatest that l lets: from the other end its step is stiff.
        model = Model(["a", "b"], {"l": ("a", Many(1, 3), "b", Many(3)), **rest})
        self.check(model, "l", "near", "3")
        self.check(model, "l", "far", "3")
        self.check(model.turned("l"), "l", "far", "3")
        model = Model(["a", "b"], {"l": ("a", Many(0, 3), "b", Many(0, 3)), **rest})
        self.check(model, "l", "near", "0..3")
        model = Model(["a", "b"], {"l": ("a", Many(1), "b", Many(2)), **rest})
        self.check(model, "l", "near", "1..*")
        self.check(model, "l", "far", "2..*")

    def test_most_numbers_0(self):
        model = Model(["a", "b"], {"l": ("a", Many(0, 0), "b", Many(0)), "m": ("a", Many(0, 4), "b", Many(0, 0))})
        for link, end in itertools.product("lm", ENDS):
            self.check(model, link, end, "0")

    def test_an_empty_kind_beyond(self):
        model = Model(["a", "b"], {"l": ("a", Many(0, 5), "b", Many(1)), "m": ("b", Many(3), "b", Many(0, 2))})
        self.check(model, "l", "near", "0")
        for link, end in (("l", "far"), ("m", "near"), ("m", "far")):
            self.empty("b", lambda paper: is_paper(model, "b", paper), occurring, model, link, end)
            self.empty("b", lambda paper: is_paper(model, "b", paper), occurring, end=end, link=link, model=model)

    def test_a_kind_with_itself(self):
        model = Model(["a"], {"l": ("a", Many(2, 5), "a", Many(0, 2)), "m": ("a", Many(0, 2), "a", Many(2, 4)),
                              "n": ("a", Many(1, 3), "a", Many(0, 2))})
        for link, end, text in (("l", "near", "2"), ("l", "far", "2"), ("m", "near", "2"), ("m", "far", "2"),
                                ("n", "near", "1..3"), ("n", "far", "0..2")):
            self.check(model, link, end, text)

    def test_the_document(self):
        for link, end, text in (("has", "near", "1..6"), ("has", "far", "1"), ("paid", "near", "1"),
                                ("paid", "far", "2..3")):
            self.check(shop(), link, end, text)
        bound = Model(["order", "line", "bill"], {**shop().links(), "on": ("bill", Many.just(3), "line", ONE)})
        for link, end, text in (("has", "near", "1..6"), ("has", "far", "1"), ("paid", "far", "2..3")):
            self.check(bound, link, end, text)

    def test_refused(self):
        for value in strange_values() + own_things()[:-1]:
            self.refused(InvalidModel, value, occurring, value, 1, 1)
            self.refused(InvalidModel, value, normal_form, value)
            self.refused(InvalidModel, value, idle_numbers, model=value)
            self.refused(UnknownLink, value, occurring, shop(), value, 1)
            if value != "near":
                self.refused(InvalidEnd, value, occurring, end=value, link="has", model=shop())
        self.refused(InvalidEnd, "x", occurring, sick(), "k", "x")


class NormalForms(Checks, unittest.TestCase):
    def test_some_models(self):
        for model in [*oracle.some_models(200, 42), *oracle.ring_models(60, 43)]:
            form = normal_form(model)
            self.assertIs(type(form), Model)
            self.assertEqual(normal_form(model=model), form)
            self.assertTrue(are_comparable(model, form))
            for link, end in itertools.product(model.links(), ENDS):
                is_full = oracle.is_full(model, model.kind_at(link, end))
                many = occurring(model, link, end) if is_full else Many.just(0)
                self.assertEqual(form.many_at(link, end), many)

    def test_by_hand(self):
        two = Many.just(2)
        self.assertEqual(normal_form(pairs()), Model(["a", "b"], {"l": ("a", two, "b", two), "m": ("a", ONE, "b", ONE)}))
        none = Many.just(0)
        self.assertEqual(normal_form(sick()), Model(list("abcde"), {
            "k": ("a", none, "e", none), "l": ("b", none, "a", none), "m": ("c", none, "c", none),
            "n": ("d", none, "c", none), "o": ("e", none, "d", none), "p": ("e", two, "e", two)}))
        self.assertEqual(normal_form(shop()), shop())
        self.assertEqual(normal_form(Model(["b", "a"])), Model(["a", "b"]))

    def test_the_same_databases_where_all_kinds_are_full(self):
        found = 0
        for model in small_models(44):
            form = normal_form(model)
            if all(oracle.is_full(model, kind) for kind in model.kinds()):
                found += form != model
                self.assertEqual(databases_of(model, 3), databases_of(form, 3))
                self.assertTrue(are_alike(model, form))
        self.assertGreater(found, 5)


class TwoModels(Checks, unittest.TestCase):
    def some_pairs(self, seed):
        """Comparable models: each of some models beside those with another Many somewhere."""
        for model in small_models(seed, 40):
            yield model, model
            for link, end in itertools.product(model.links(), ENDS):
                least, most = model.many_at(link, end).least, model.many_at(link, end).most
                for many in (Many(0, most), Many(least), Many(least, least), Many(least, 2 * least),
                             Many(least, least + 1), Many(least + 1), Many(max(0, least - 1), most), *smaller(least, most)):
                    yield model, model.with_many(link, end, many)

    def test_all_sets_of_pairs(self):
        found = []
        for model, other in self.some_pairs(45):
            here, there = databases_of(model, 3), databases_of(other, 3)
            self.assertIs(are_alike(one=model, other=other), are_alike(other, model))
            self.assertIs(are_alike(model, other), is_below(model, other) and is_below(other, model))
            for one, two, its, others in ((model, other, here, there), (other, model, there, here)):
                below = is_below(one, two)
                self.assertIs(is_below(other=two, one=one), below)
                if below:
                    self.assertEqual([database for database in its if database not in others], [])
                found.append((below, here == there))
        for case in itertools.product((True, False), repeat=2):
            self.assertGreater(found.count(case), 15, case)

    def check(self, one, other, below, above):
        self.assertIs(is_below(one, other), below)
        self.assertIs(is_below(other, one), above)
        self.assertIs(are_alike(one, other), below and above)

    def test_by_hand(self):
        self.check(shop(), shop().with_many("has", "near", Many(1, 4)), False, True)
        self.check(shop(), shop().with_many("has", "near", Many(2, 7 - 1)), False, True)
        self.check(shop().with_many("has", "near", Many(0, 4)), shop(), False, False)
        self.check(pairs(), pairs().with_many("l", "far", Many(0, 2)), True, True)
        self.check(pairs(), pairs().with_many("l", "near", Many(2)), True, True)
        self.check(pairs(), pairs().with_many("l", "near", Many(2)).with_many("m", "far", Many(0, 1)), True, False)
        self.check(pairs(), pairs().with_many("l", "far", Many(0)), True, False)
        self.check(Model(["a"]), Model(["a"]), True, True)

    def test_empty_kinds(self):
        a_and_b = {"l": ("a", Many(0), "b", Many(0))}
        full = Model(["a", "b"], a_and_b)
        for many, other in ((Many(1), Many(0, 0)), (Many(2, 3), Many(0, 0))):
            empty = full.with_many("l", "near", many).with_many("l", "far", other)
            self.check(empty, full, True, False)
            self.check(empty, full.with_many("l", "far", other), True, False)
            self.assertEqual(normal_form(empty), normal_form(full.with_many("l", "far", other)))
        one, two = (Model(["a"], {"l": ("a", Many(many), "a", Many(0, 1))}) for many in (2, 3))
        self.check(one, two, True, True)
        # With empty kinds only there is one database, without rows: each model has it.
        self.check(one, Model(["a"], {"l": ("a", ONE, "a", ONE)}), True, False)

    def test_comparable(self):
        model = Model(["a", "b"], {"l": ("a", ONE, "b", ONE)})
        for other, is_it in ((model, True), (model.turned("l"), False), (model.with_many("l", "far", Many(0)), True),
                             (model | Model(["c"]), False), (Model(["b", "a"]), False),
                             (Model(["a", "b"], {"m": ("a", ONE, "b", ONE)}), False),
                             (Model(["a", "b"], {"l": ("a", ONE, "a", ONE)}), False)):
            self.assertIs(are_comparable(model, other), is_it)
            self.assertIs(are_comparable(other=model, one=other), is_it)
            for call in (are_alike, is_below, join_of):
                if not is_it:
                    error = self.raised(Apart, call, model, other)
                    self.assertEqual((error.one, error.other), (model, other))
                    error = self.raised(Apart, call, other=model, one=other)
                    self.assertEqual((error.one, error.other), (other, model))

    def test_refused(self):
        for value in strange_values() + own_things()[:-1]:
            for call in (are_comparable, are_alike, is_below, join_of):
                self.refused(InvalidModel, value, call, value, 1)
                self.refused(InvalidModel, value, call, other=value, one=Model(["x"]))
        for value in (Many(1), None, "shop"):
            self.refused(InvalidModel, value, are_comparable, shop(), value)

    def test_joins(self):
        found = 0
        for model, other in self.some_pairs(46):
            empty = [kind for kind in model.kinds() if not oracle.is_full(model, kind) and not oracle.is_full(other, kind)]
            if empty:
                for one, two in ((model, other), (other, model)):
                    self.empty(empty[0], lambda paper: is_paper(one, empty[0], paper), join_of, one, two)
                continue
            join = join_of(model, other)
            self.assertIs(type(join), Model)
            self.assertEqual(join_of(other=model, one=other), join)
            self.assertTrue(is_below(model, join) and is_below(other, join))
            self.assertEqual(is_below(model, other), are_alike(join, other))
            # All that is a little less than the join is not above both.
            for link, end in itertools.product(join.links(), ENDS):
                for many in smaller(join.many_at(link, end).least, join.many_at(link, end).most):
                    less = join.with_many(link, end, many)
                    self.assertFalse(is_below(model, less) and is_below(other, less))
                    found += 1
        self.assertGreater(found, 30)

    def test_joins_by_hand(self):
        def model(near, far):
            return Model(["a", "b"], {"l": ("a", near, "b", far)})
        for one, other, wanted in (
                ((Many(1, 2), ONE), (Many(4, 5), ONE), (Many(1, 5), ONE)),
                ((Many(1, 2), ONE), (Many(4), Many(0, 3)), (Many(1), Many(0, 3))),
                ((Many(1), Many(0, 0)), (Many(0, 2), Many(2, 3)), (Many(0, 2), Many(0, 3))),
                ((Many(2), Many(0, 0)), (Many(0, 0), Many(3)), (Many(0, 0), Many(0, 0)))):
            self.assertEqual(join_of(model(*one), model(*other)), model(*wanted))
            self.assertEqual(join_of(model(*other), model(*one)), model(*wanted))
        self.assertEqual(join_of(pairs(), pairs()), normal_form(pairs()))
        self.assertEqual(join_of(Model(["a"]), Model(["a"])), Model(["a"]))

    def test_joins_of_models_with_the_same_empty_kind(self):
        for one, two in ((sick(), sick()), (sick(), sick().with_many("k", "near", Many(0)))):
            kind = "a" if one == two else "c"
            self.empty(kind, lambda paper: is_paper(one, kind, paper), join_of, one, two)
            self.empty(kind, lambda paper: is_paper(two, kind, paper), join_of, other=one, one=two)


class Idle(Checks, unittest.TestCase):
    def test_some_models(self):
        found = []
        for model in [*oracle.some_models(120, 47), *oracle.ring_models(20, 48)]:
            told = idle_numbers(model)
            self.assertEqual(idle_numbers(model=model), told)
            self.assertEqual(told, sorted(told))
            for link, end in itertools.product(model.links(), ENDS):
                least, most = model.many_at(link, end).least, model.many_at(link, end).most
                without = [("least", Many(0, most))] * (least > 0) + [("most", Many(least))] * (most is not None)
                for word, many in without:
                    is_idle = are_alike(model, model.with_many(link, end, many))
                    self.assertIs((link, end, word) in told, is_idle)
                    found.append(is_idle)
                self.assertEqual([entry for entry in told if entry[:2] == (link, end)],
                                 [(link, end, word) for word, _ in without if (link, end, word) in told])
        self.assertGreater(min(found.count(True), found.count(False)), 50)

    def test_all_sets_of_pairs(self):
        for model in small_models(49, 30):
            for link, end, word in idle_numbers(model):
                many = model.many_at(link, end)
                other = model.with_many(link, end, Many(0, many.most) if word == "least" else Many(many.least))
                self.assertEqual(databases_of(model, 3), databases_of(other, 3))

    def test_by_hand(self):
        # Without the most number of m there are still at least as many b as a, and at most as many.
        self.assertEqual(idle_numbers(pairs()), [("l", "far", "least"), ("l", "near", "most"), ("m", "far", "most"),
                                                 ("m", "near", "least")])
        self.assertEqual(idle_numbers(shop()), [])
        self.assertEqual(idle_numbers(Model(["a"])), [])
        # Both links make a empty: without a number of one of them it is so by the other one.
        model = Model(["a", "b"], {"l": ("a", Many(2, 3), "b", Many(0, 0)), "m": ("a", Many(3), "a", Many(0, 1))})
        self.assertEqual(idle_numbers(model), [("l", "far", "most"), ("l", "near", "least"), ("l", "near", "most"),
                                               ("m", "far", "most"), ("m", "near", "least")])
        self.assertEqual(idle_numbers(model.without("m")), [("l", "near", "most")])


if __name__ == "__main__":
    unittest.main()
