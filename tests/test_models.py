"""Models: how they are made, told and compared, and what is refused."""

import itertools
import unittest

from howmanyeach.errors import InvalidEnd, InvalidKinds, InvalidLink, InvalidModel, TooMany, UnknownLink
from howmanyeach.manys import Many
from howmanyeach.models import Model
from tests.helpers import SIXTY, Checks, own_things, shop, strange_values

ONE = Many.just(1)
LETTERS = "abcdefgh"


def line_of(many):
    """A model with so many links, all between the same two kinds."""
    return {LETTERS[i]: ("x", Many(i % 3, 6 - i % 2), "y", Many(i % 7)) for i in range(many)}


class Made(unittest.TestCase):
    def test_kinds_in_any_sequence(self):
        for many in range(1, 6):
            kinds = ["ab", "abcdefgh", "b", "kind", "link"][:many]
            for told in itertools.permutations(kinds):
                for model in (Model(told), Model(list(told)), Model(kinds=told), Model(list(told), None),
                              Model(list(told), {}), Model(links=None, kinds=list(told))):
                    self.assertIs(type(model), Model)
                    self.assertEqual(model.kinds(), kinds)
                    self.assertIs(type(model.kinds()), list)
                    self.assertEqual(model.links(), {})
                    self.assertEqual(len(model), 0)

    def test_links_in_any_sequence(self):
        told = line_of(4)
        for keys in itertools.permutations(told):
            links = {key: told[key] for key in keys}
            for model in (Model(["y", "x"], links), Model(links=links, kinds=("x", "y"))):
                self.assertEqual(list(model.links().items()), sorted(told.items()))
                self.assertEqual(len(model), 4)

    def test_up_to_eight_links(self):
        for many in range(9):
            model = Model(["x", "y"], line_of(many))
            self.assertEqual([len(model), model.links()], [many, line_of(many)])

    def test_parts(self):
        model = Model(["b", "a"], {"m": ("b", Many(2, 3), "a", Many(0)), "l": ("a", Many(0, 0), "a", Many(6, 6))})
        self.assertEqual(list(model.links()), ["l", "m"])
        self.assertEqual([model.kind_at("m", "near"), model.kind_at("m", "far")], ["b", "a"])
        self.assertEqual([model.many_at("m", "near"), model.many_at(end="far", link="m")], [Many(2, 3), Many(0)])
        self.assertEqual([model.kind_at(link="l", end="near"), model.kind_at("l", "far")], ["a", "a"])
        self.assertEqual([model.many_at("l", "near"), model.many_at("l", "far")], [Many(0, 0), Many(6, 6)])
        for ends in model.links().values():
            self.assertIs(type(ends), tuple)

    def test_the_same_names_for_kinds_and_links(self):
        model = Model(["a", "near"], {"a": ("near", ONE, "a", ONE), "near": ("a", Many(6), "near", Many(0, 6))})
        self.assertEqual(model.kind_at("near", "far"), "near")
        self.assertEqual(model.kind_at("a", "far"), "a")

    def test_limits(self):
        for holder in (Model, shop()):
            self.assertEqual([holder.MOST_KINDS, holder.MOST_LINKS], [5, 8])

    def test_contains(self):
        model = shop()
        for kind in ("order", "line", "bill"):
            self.assertIs(kind in model, True)
        for value in strange_values() + own_things() + ["has", "paid", "orde", "ORDER", ["order"], ("order",)]:
            self.assertIs(value in model, False)
            self.assertIs(value not in model, True)

    def test_repr(self):
        self.assertEqual(repr(Model(("b", "a"))), "Model(['a', 'b'], {})")
        links = {"m": ("a", Many(1), "b", ONE), "l": ("b", Many(0, 6), "b", Many(2, 3))}
        text = "Model(['a', 'b'], {'l': ('b', Many(0, 6), 'b', Many(2, 3)), 'm': ('a', Many(1), 'b', Many(1, 1))})"
        self.assertEqual(repr(Model(["b", "a"], links)), text)


class Kept(unittest.TestCase):
    def test_what_was_passed_can_be_changed(self):
        kinds, links = ["x", "y"], line_of(2)
        model = Model(kinds, links)
        kinds.append("z")
        kinds[0] = "w"
        links["a"] = ("y", ONE, "y", ONE)
        del links["b"]
        self.assertEqual([model.kinds(), model.links()], [["x", "y"], line_of(2)])

    def test_what_was_returned_can_be_changed(self):
        model = Model(["x", "y"], line_of(2))
        kinds, links = model.kinds(), model.links()
        kinds.clear()
        links.clear()
        model.links()["a"] = None
        self.assertEqual([model.kinds(), model.links(), len(model)], [["x", "y"], line_of(2), 2])
        self.assertTrue("x" in model)


class Equal(unittest.TestCase):
    def test_equal_parts(self):
        self.assertTrue(shop() == shop())
        self.assertFalse(shop() != shop())
        self.assertTrue(Model(["a", "b"]) == Model(("b", "a"), {}))

    def test_other_parts(self):
        model = Model(["a", "b"], {"l": ("a", ONE, "b", Many(1))})
        for other in (Model(["a", "b"]), Model(["a", "b", "c"], model.links()),
                      Model(["a", "b"], {"m": ("a", ONE, "b", Many(1))}),
                      Model(["a", "b"], {"l": ("b", Many(1), "a", ONE)}),
                      Model(["a", "b"], {"l": ("a", ONE, "b", Many(1, 6))}),
                      Model(["a", "b"], {"l": ("a", Many(0, 1), "b", Many(1))}),
                      Model(["a", "b"], {"l": ("a", ONE, "a", Many(1))}),
                      Model(["a", "b"], {**model.links(), "m": ("a", ONE, "b", ONE)})):
            self.assertFalse(model == other)
            self.assertTrue(model != other)
            self.assertFalse(other == model)

    def test_values_of_other_kinds(self):
        for value in strange_values() + own_things()[:-1] + [repr(shop()), shop().kinds(), shop().links()]:
            self.assertIs(shop() == value, False)
            self.assertIs(value == shop(), False)
            self.assertIs(shop() != value, True)


class RefusedKinds(Checks, unittest.TestCase):
    def position(self, wanted, kinds, *rest):
        self.assertEqual(self.raised(InvalidKinds, Model, kinds, *rest).position, wanted)
        self.assertEqual(self.raised(InvalidKinds, Model, kinds=kinds).position, wanted)

    def test_no_list(self):
        for value in strange_values() + own_things():
            if not isinstance(value, (list, tuple)) or not value:
                self.position(None, value)
        for value in ("abc", {"a": 1}, {"a"}, [], ()):
            self.position(None, value)

    def test_wrong_ones(self):
        for value in strange_values() + own_things() + ["A", "aa ", "abcdefghi", "a1", ["a"], ("a",)]:
            if value not in ("a", "near", "word"):
                for kinds in ([value], (value,), [value, value], [value, "a"]):
                    self.position(0, kinds)
                self.position(2, ["x", "y", value, "z", value])
                self.position(1, ("x", value))

    def test_repeated_ones(self):
        self.position(1, ["a", "a"])
        self.position(3, ("a", "b", "c", "b", "a"))
        self.position(2, ["a", "b", "a", 1])
        self.position(1, ["a", 1, "a"])
        self.position(6, ["a", "b", "c", "d", "e", "f", "f"])

    def test_ahead_of_links(self):
        self.position(0, [1], 5)
        self.position(None, [], {"l": 1})
        self.position(1, ["a", "a"], line_of(3))


class RefusedLinks(Checks, unittest.TestCase):
    def link(self, wanted, links, kinds=("x", "y")):
        self.refused(InvalidLink, wanted, Model, kinds, links)
        self.refused(InvalidLink, wanted, Model, links=links, kinds=list(kinds))

    def test_no_dict(self):
        for value in strange_values() + own_things() + [[("l", 1)], list(line_of(1).items()), "l", 0]:
            if not isinstance(value, dict) and value is not None:
                self.link(None, value)

    def test_keys_that_are_no_names(self):
        for key in (1, True, None, "", "A", "l1", "abcdefghi", ("l",), b"l", 0):
            self.link(None, {key: ("x", ONE, "y", ONE)})
            self.link(None, {**line_of(3), key: 1})
            self.link(None, {"a": 1, key: ("x", ONE, "y", ONE)})

    def test_wrong_ends(self):
        right = ("x", ONE, "y", Many(0))
        wrong = [value for value in strange_values() + own_things()]
        wrong.extend([list(right), right[:3], right + (ONE,), right + ("x",), {"x": ONE}, (right,), "xyxy"])
        for place, parts in ((0, [ONE, "z", "X", 1, None, ["x"], ("x",), {}, True]),
                             (1, ["x", 1, True, None, "1", (1, 1), Many(7), Many(0, 7), Many(SIXTY), Many(6, 8), []]),
                             (2, [ONE, "z", "far", 2, None, ["y"], b"y"]),
                             (3, ["y", 0, False, None, "0..*", Many(7, 7), Many(1, SIXTY), Many(6, 7), {}])):
            wrong.extend([right[:place] + (part,) + right[place + 1:] for part in parts])
        self.assertEqual(len(Model(["x", "y"], {"l": right})), 1)
        for ends in wrong:
            self.link("l", {"l": ends})
            self.link("b", {"c": 1, "b": ends, "a": right})
            self.link("b", {"c": right, "a": right, "b": ends})

    def test_the_first_key_decides(self):
        self.link("a", {"c": 1, "b": 2, "a": 3})
        self.link("aa", {"b": 1, "aa": ("x", ONE, "z", ONE), "a": ("x", ONE, "y", ONE)})
        self.link("h", {**line_of(7), "i": 1, "h": None})

    def test_ahead_of_limits(self):
        self.link("l", {"l": ("g", ONE, "a", ONE)}, tuple("abcdef"))
        self.link("i", {**line_of(8), "i": ("x", ONE, "y", Many(7))})
        self.link(None, {**line_of(8), "i": ("x", ONE, "y", ONE), "A": 1})


class RefusedNumbers(Checks, unittest.TestCase):
    def limit(self, what, most, kinds, links):
        for error in (self.raised(TooMany, Model, kinds, links),
                      self.raised(TooMany, Model, links=links, kinds=kinds)):
            self.assertEqual([error.what, error.limit], [what, most])

    def test_limits(self):
        nine = {**line_of(8), "i": ("x", ONE, "y", ONE)}
        self.limit("kinds", 5, list("abcdef"), None)
        self.limit("kinds", 5, tuple("abcdefghijklmnop"), {})
        self.limit("links", 8, ["x", "y"], nine)
        self.limit("links", 8, ["y", "x", "a", "b", "c"], {**nine, "j": nine["i"], "k": nine["a"]})
        self.limit("kinds", 5, list("abcdxy"), nine)
        self.limit("kinds", 5, list("abcdxy"), line_of(8))


class RefusedEnds(Checks, unittest.TestCase):
    def test_unknown_links(self):
        model = shop()
        for call in (model.kind_at, model.many_at):
            for value in strange_values() + own_things() + ["order", "hass", ["has"], ("has",)]:
                self.refused(UnknownLink, value, call, value, "near")
                self.refused(UnknownLink, value, call, value, 1)
                self.refused(UnknownLink, value, call, end="far", link=value)

    def test_no_ends(self):
        model = shop()
        for call in (model.kind_at, model.many_at):
            for value in strange_values() + own_things() + ["Near", "order", ["near"], ("far",), 0]:
                if value != "near":
                    self.refused(InvalidEnd, value, call, "has", value)
                    self.refused(InvalidEnd, value, call, end=value, link="paid")

    def test_errors_are_of_their_families(self):
        self.assertRaises(ValueError, Model, [])
        self.assertRaises(LookupError, shop().kind_at, "l", "near")
        self.assertRaises(ArithmeticError, Model, list("abcdef"))
        self.assertTrue(issubclass(InvalidModel, ValueError))


if __name__ == "__main__":
    unittest.main()
