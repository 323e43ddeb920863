"""Empty kinds and their papers, ratios and greatest ways."""

import unittest
from fractions import Fraction

from howmanyeach.errors import Empty, EmptyBy, InvalidModel, StateError, UnknownKind
from howmanyeach.manys import Many
from howmanyeach.models import Model
from howmanyeach.ratios import Ratio, Span
from howmanyeach.rings import empty_kinds, empty_paper, greatest_way, is_empty_paper, is_full, ratio_of
from tests import oracle
from tests.helpers import Checks, own_things, shop, strange_values

ONE = Many.just(1)
TWO = Many.just(2)


def sick():
    """a: a broken step from it; b: leads to a; c: a ring above 1; d: leads there by a step without a factor."""
    return Model(["a", "b", "c", "d", "e"], {
        "k": ("a", ONE, "e", Many(0, 0)), "l": ("b", Many(1, 2), "a", Many(0, 5)),
        "m": ("c", Many(3, 5), "c", Many(1, 2)), "n": ("d", Many(1), "c", Many(0)),
        "o": ("e", Many(0), "d", Many(0, 1)), "p": ("e", Many(2, 2), "e", TWO)})


def around(*numbers):
    """Kinds in a ring: a step from each to the next one, p and s of it being the next two numbers."""
    kinds = list("abcde")[:len(numbers) // 2]
    return Model(kinds, {"lmnop"[at]: (kinds[at], Many(numbers[2 * at]), kinds[(at + 1) % len(kinds)],
                                       Many(0, numbers[2 * at + 1])) for at in range(len(kinds))})


def is_paper(model, kind, value):
    """Whether a paper of the right form shows that the kind is empty."""
    way, last = value
    try:
        goal, _ = oracle.follow(model, kind, way)
        if isinstance(last, tuple):
            start, _, weight = oracle.steps(model)[last]
            return start == goal and weight is None
        beyond, product = oracle.follow(model, goal, last)
        return len(last) > 0 and beyond == goal and product > 1
    except (ValueError, KeyError):
        return False


class EmptyKinds(Checks, unittest.TestCase):
    def check(self, model):
        empty = [kind for kind in model.kinds() if not oracle.is_full(model, kind)]
        self.assertEqual(empty_kinds(model), empty)
        self.assertEqual(empty_kinds(model=model), empty)
        for kind in model.kinds():
            self.assertIs(is_full(model, kind), kind not in empty)
            paper = empty_paper(model, kind)
            self.assertEqual(empty_paper(kind=kind, model=model), paper)
            self.assertIs(paper is None, kind not in empty)
            if paper is not None:
                self.assertIs(type(paper), tuple)
                self.assertTrue(is_paper(model, kind, paper))
                for other in model.kinds():
                    self.assertIs(is_empty_paper(model, other, paper), is_paper(model, other, paper))
        return len(empty)

    def test_some_models(self):
        found = [self.check(model) for model in oracle.some_models(500, 4)]
        self.assertGreater(min(found.count(0), found.count(1), found.count(2)), 30)
        self.assertGreater(found.count(3), 5)

    def test_some_larger_models(self):
        found = [self.check(model) for model in oracle.some_models(150, 5, 5, 8, 6)]
        self.assertGreater(min(found.count(0), 150 - found.count(0)), 20)

    def test_by_hand(self):
        self.assertEqual(self.check(sick()), 4)
        self.assertEqual(empty_kinds(sick()), ["a", "b", "c", "d"])
        self.assertEqual([empty_paper(sick(), "a"), empty_paper(sick(), "b")],
                         [([], ("k", "near")), ([("l", "near")], ("k", "near"))])
        self.assertEqual([empty_paper(shop(), "order"), empty_kinds(shop())], [None, []])

    def test_rings_through_five_kinds(self):
        for numbers, wanted in (((2, 1, 3, 2, 1, 1, 5, 4, 1, 4), 0), ((2, 1, 3, 2, 1, 1, 5, 4, 1, 3), 5),
                                ((2, 1, 3, 2, 1, 1, 5, 4, 1, 5), 0), ((6, 5, 5, 6, 6, 5, 5, 6, 1, 1), 0),
                                ((6, 5, 6, 5, 6, 5, 6, 5, 1, 2), 5), ((6, 5, 6, 5, 6, 5, 6, 5, 1, 3), 0)):
            self.assertEqual(self.check(around(*numbers)), wanted)
        self.assertEqual(self.check(around(6, 5, 6, 5, 6, 5, 5, 6, 5, 6).with_many("l", "far", Many(0))), 0)

    def test_rings_to_which_a_way_leads(self):
        model = Model(list("abcd"), {"l": ("a", ONE, "b", Many(0)), "m": ("b", ONE, "c", Many(0, 1)),
                                     "n": ("c", TWO, "b", Many(0, 1)), "o": ("d", Many(0), "a", Many(0))})
        self.assertEqual(self.check(model), 3)
        self.assertEqual(self.check(model.with_many("n", "far", Many(0, 2))), 0)
        self.assertEqual(self.check(model.with_many("n", "far", Many(0))), 0)
        self.assertEqual(self.check(model.with_many("o", "near", ONE)), 4)

    def test_what_is_returned_can_be_changed(self):
        model = sick()
        for kind in "abcd":
            paper = empty_paper(model, kind)
            for part in paper:
                if isinstance(part, list):
                    part.clear()
            self.assertTrue(is_empty_paper(model, kind, empty_paper(model, kind)))
        empty_kinds(model).clear()
        self.assertEqual(len(empty_kinds(model)), 4)


class Papers(unittest.TestCase):
    def check(self, kind, value, is_it):
        self.assertIs(is_empty_paper(sick(), kind, value), is_it)
        self.assertIs(is_empty_paper(value=value, kind=kind, model=sick()), is_it)

    def test_right_ones(self):
        up, down, step = ("m", "near"), ("m", "far"), ("k", "near")
        for kind, way, last in (("a", [], step), ("b", [("l", "near")], step), ("c", [], [up]), ("c", [], [up, up]),
                                ("c", [up], [up]), ("c", [down, up, down], [up, up, down, up, up]), ("c", [down], [up]),
                                ("d", [("n", "near")], [up]), ("d", [("n", "near"), down], [up] * 50)):
            self.check(kind, (way, last), True)
            self.check(kind, (tuple(way), last), True)
            if isinstance(last, list):
                self.check(kind, (way, tuple(last)), True)

    def test_wrong_ones(self):
        up, down, step = ("m", "near"), ("m", "far"), ("k", "near")
        for kind, way, last in (("b", [], step), ("e", [], step), ("a", [("k", "near")], step), ("a", [], [step]),
                                ("c", [], [down]), ("c", [], []), ("c", [], ()), ("c", [], up), ("c", [], [up, down] * 9
                                                                                               + [down]),
                                ("d", [], [up]), ("d", [("n", "far")], [up]), ("e", [], [("p", "near")]),
                                ("a", [], ("k", "far")), ("b", [("l", "far")], step), ("c", [], [up, ("n", "near")]),
                                ("a", [], list(step)), ("b", [["l", "near"]], step), ("c", [[up]], [up]),
                                ("a", None, step), ("a", [], None), ("a", {}, step), ("c", "", [up]), ("a", step, step),
                                ("a", [], ("k", None)), ("a", [], (None, "near")), ("a", [], ([], {})), ("c", [], {up}),
                                ("a", [], ("k", "near", 1)), ("c", [], {up: 1}), ("a", [], "near"), ("a", 0, step)):
            self.check(kind, (way, last), False)
        for value in (([], step, []), ([],), [[], step], {"a": 1}, step, ([], ("k", "near"), None)):
            self.check("a", value, False)

    def test_values_of_other_kinds(self):
        for value in strange_values() + own_things():
            for kind in "abcde":
                self.check(kind, value, False)
                self.check(kind, (value, ("k", "near")), value in ([], ()) and kind == "a")
                self.check(kind, ([], value), False)

    def test_rings_from_each_kind_on_them(self):
        model = Model(["a", "b", "c"], {"l": ("a", Many(3), "b", Many(0, 2)), "m": ("b", ONE, "a", Many(0, 1)),
                                        "n": ("c", ONE, "b", Many(0))})
        there, back, to = ("l", "near"), ("m", "near"), ("n", "near")
        for kind, way, ring, is_it in (("a", [], [there, back], True), ("b", [], [back, there], True),
                                       ("a", [there], [back, there], True), ("b", [back], [there, back], True),
                                       ("a", [], [there, back] * 2, True), ("a", [there, back], [there, back], True),
                                       ("c", [to], [back, there], True), ("c", [to, back], [there, back], True),
                                       ("a", [], [back, there], False), ("b", [], [there, back], False),
                                       ("c", [to], [there, back], False), ("c", [], [to, back, there], False),
                                       ("a", [], [there, back, there], False), ("a", [], [there], False)):
            self.assertIs(is_empty_paper(model, kind, (way, ring)), is_it)
            self.assertIs(is_empty_paper(model, kind, (tuple(way), tuple(ring))), is_it)
        self.assertEqual(empty_kinds(model), ["a", "b", "c"])
        model = model.with_many("l", "near", Many(2))
        self.assertIs(is_empty_paper(model, "a", ([], [there, back])), False)
        self.assertEqual(empty_kinds(model), [])

    def test_full_kinds(self):
        for value in (([], [("has", "near"), ("has", "far")]), ([], ("has", "near")), ([("has", "near")], [])):
            self.assertIs(is_empty_paper(shop(), "order", value), False)


class Ratios(Checks, unittest.TestCase):
    def told(self, model, kind, other):
        """The ratio, from the least sizes for very many of a kind."""
        if not oracle.is_full(model, other):
            return Span(Ratio(0), True, Ratio(0))
        low, back = oracle.low(model, kind, other), oracle.low(model, other, kind)
        # A way without a product asks for few rows only.
        is_had = oracle.least(model, {kind: oracle.WHOLE})[other] == 0 or low >= Fraction(1, 6 ** 4)
        low = low if low >= Fraction(1, 6 ** 4) else Fraction(0)
        high = None if back < Fraction(1, 6 ** 4) else Ratio(back.denominator, back.numerator)
        return Span(Ratio(low.numerator, low.denominator), is_had, high)

    def check(self, model):
        told = []
        for kind in model.kinds():
            for other in model.kinds():
                if not oracle.is_full(model, kind):
                    for call in (ratio_of, greatest_way):
                        self.empty(call, model, kind, other)
                    continue
                span = self.told(model, kind, other)
                self.assertEqual(ratio_of(model, kind, other), span)
                way = greatest_way(other=other, kind=kind, model=model)
                if way is None:
                    self.assertEqual([span.low, span.is_had], [Ratio(0), True])
                else:
                    self.assertIs(type(way), list)
                    goal, product = oracle.follow(model, kind, way)
                    self.assertEqual(goal, other)
                    self.assertEqual(product, Fraction(span.low.top, span.low.bottom))
                    self.assertIs(span.is_had, product > 0)
                told.append(str(span))
        return told

    def empty(self, call, model, kind, other):
        for error in (self.raised(Empty, call, model, kind, other),
                      self.raised(Empty, call, other=other, kind=kind, model=model)):
            self.assertEqual(error.kind, kind)
            self.assertTrue(is_paper(model, kind, error.paper))
            self.assertIs(type(error.__cause__), EmptyBy)
            self.assertEqual(error.__cause__.paper, error.paper)

    def test_some_models(self):
        told = [text for model in oracle.some_models(300, 6) for text in self.check(model)]
        for text in ("1..1", "0..*", ">0..*", "0..0", "1/2..2", "1..*", "0..1"):
            self.assertGreater(told.count(text), 3, text)

    def test_some_larger_models(self):
        told = [text for model in oracle.some_models(150, 7, 5, 6, 6) for text in self.check(model)]
        self.assertGreater(len(set(told)), 30)

    def test_by_hand(self):
        rows = [("order", "line", "1..6"), ("order", "bill", "1/3..1/2"), ("bill", "line", "2..18"),
                ("line", "order", "1/6..1"), ("line", "line", "1..1"), ("line", "bill", "1/18..1/2")]
        for kind, other, text in rows:
            self.assertEqual(str(ratio_of(shop(), kind, other)), text)
            self.assertEqual(ratio_of(other=other, kind=kind, model=shop()), ratio_of(shop(), kind, other))
        self.assertEqual(greatest_way(shop(), "bill", "line"), [("paid", "far"), ("has", "near")])
        self.assertEqual(greatest_way(shop(), "bill", "bill"), [])

    def test_without_bounds(self):
        model = Model(["a", "b", "c"], {"l": ("a", Many(1), "b", Many(0))})
        self.assertEqual(ratio_of(model, "a", "b"), Span(Ratio(0), False, None))
        self.assertEqual(ratio_of(model, "b", "a"), Span(Ratio(0), True, None))
        self.assertEqual(ratio_of(model, "a", "c"), Span(Ratio(0), True, None))
        self.assertEqual(greatest_way(model, "a", "b"), [("l", "near")])
        self.assertIsNone(greatest_way(model, "b", "a"))
        model = model.with_many("l", "near", Many(0, 3)).with_many("l", "far", ONE)
        self.assertEqual(ratio_of(model, "a", "b"), Span(Ratio(0), True, Ratio(3)))

    def test_the_greatest_of_several_ways(self):
        model = Model(list("abc"), {"l": ("a", ONE, "b", Many(0, 2)), "m": ("a", Many(2), "b", Many(0, 3)),
                                    "n": ("a", Many(1), "c", Many(0, 1)), "o": ("c", Many(3, 3), "b", Many(0, 4))})
        self.assertEqual(ratio_of(model, "a", "b"), Span(Ratio(3, 4), True, None))
        self.assertEqual(greatest_way(model, "a", "b"), [("n", "near"), ("o", "near")])
        self.assertEqual(greatest_way(model.with_many("o", "far", Many(0)), "a", "b"), [("m", "near")])

    def test_empty_others(self):
        for other in "abcd":
            self.assertEqual(ratio_of(sick(), "e", other), Span(Ratio(0), True, Ratio(0)))
            self.assertIsNone(greatest_way(sick(), "e", other))
            for kind in "abcde":
                self.empty(ratio_of, sick(), other, kind)
                self.empty(greatest_way, sick(), other, kind)

    def test_repeated(self):
        way = greatest_way(shop(), "bill", "line")
        way.append(5)
        self.assertEqual(greatest_way(shop(), "bill", "line"), [("paid", "far"), ("has", "near")])
        self.assertTrue(issubclass(Empty, StateError))


class Refused(Checks, unittest.TestCase):
    def test_models(self):
        for value in strange_values() + own_things()[:-1]:
            self.refused(InvalidModel, value, empty_kinds, value)
            self.refused(InvalidModel, value, empty_kinds, model=value)
            for call, rest in ((is_full, (1,)), (empty_paper, (1,)), (is_empty_paper, (1, 2)), (ratio_of, (1, 2)),
                               (greatest_way, (1, 2))):
                self.refused(InvalidModel, value, call, value, *rest)

    def test_kinds(self):
        for value in strange_values() + own_things() + ["k", "f"]:
            if value != "a":
                for call, rest in ((is_full, {}), (empty_paper, {}), (is_empty_paper, {"value": 1}),
                                   (ratio_of, {"other": "x"}), (greatest_way, {"other": "x"})):
                    self.refused(UnknownKind, value, call, sick(), value, *rest.values())
                    self.refused(UnknownKind, value, call, **rest, kind=value, model=sick())
                for call in (ratio_of, greatest_way):
                    self.refused(UnknownKind, value, call, sick(), "a", value)
                    self.refused(UnknownKind, value, call, other=value, kind="e", model=sick())


if __name__ == "__main__":
    unittest.main()
