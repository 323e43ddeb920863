"""Sizes: a COUNT for each of some kinds."""

import itertools
import operator
import unittest

from howmanyeach.errors import InvalidCount, InvalidMany, InvalidSizes, UnknownKind
from howmanyeach.manys import Many
from howmanyeach.sizes import Sizes, sizes_for
from tests.helpers import SIXTY, SIXTY_MORE, Checks, own_things, shop, strange_values

NO_COUNTS = [value for value in strange_values() + own_things()]
NO_NAMES = ["", "A", "abcdefghi", "a1", 1, True, None, b"a", ("a",), 0]
COUNTS = {"order": 10, "bill": SIXTY, "line": 0}


def two_kinds():
    return [Sizes({"a": a, "b": b}) for a, b in itertools.product((0, 1, 2, 5, SIXTY), repeat=2)]


class Made(unittest.TestCase):
    def test_dicts_in_any_sequence(self):
        for keys in itertools.permutations(COUNTS):
            told = {key: COUNTS[key] for key in keys}
            for sizes in (Sizes(told), Sizes(counts=told), Sizes.of(**told)):
                self.assertIs(type(sizes), Sizes)
                self.assertEqual(sizes.kinds(), ["bill", "line", "order"])
                self.assertEqual(list(sizes.counts().items()), sorted(COUNTS.items()))
                self.assertEqual([sizes["order"], sizes["bill"], sizes["line"], len(sizes)], [10, SIXTY, 0, 3])
                self.assertEqual(repr(sizes), f"Sizes({{'bill': {SIXTY}, 'line': 0, 'order': 10}})")

    def test_one_entry_and_many(self):
        self.assertEqual([Sizes({"a": 0}).counts(), len(Sizes({"a": 0}))], [{"a": 0}, 1])
        told = {first + second: at for at, (first, second) in enumerate(itertools.product("abcdefg", repeat=2))}
        self.assertEqual([Sizes(told).counts(), len(Sizes(told))], [told, 49])

    def test_of(self):
        self.assertEqual(Sizes.of(line=2, bill=1), Sizes({"bill": 1, "line": 2}))
        self.assertEqual(Sizes.of(self=1, cls=2, counts=3, first=4).counts(),
                         {"cls": 2, "counts": 3, "first": 4, "self": 1})
        self.assertEqual(Sizes({"a": 1}).of(b=2), Sizes({"b": 2}))

    def test_what_was_passed_or_returned_can_be_changed(self):
        told = {"b": 1, "a": 2}
        sizes = Sizes(told)
        told["b"] = 5
        del told["a"]
        sizes.counts()["a"] = 7
        sizes.counts().clear()
        sizes.kinds().append("c")
        self.assertEqual([sizes.counts(), sizes.kinds(), sizes["a"]], [{"a": 2, "b": 1}, ["a", "b"], 2])

    def test_contains(self):
        sizes = Sizes(COUNTS)
        for kind in COUNTS:
            self.assertIs(kind in sizes, True)
        for value in NO_COUNTS + NO_NAMES + ["has", 10, ["order"], {"order": 10}]:
            self.assertIs(value in sizes, False)

    def test_not_iterated(self):
        for sizes in (Sizes(COUNTS), Sizes({"a": 0})):
            self.assertRaises(TypeError, iter, sizes)
            self.assertRaises(TypeError, list, sizes)
            self.assertRaises(TypeError, dict, sizes)

    def test_bool(self):
        for told, wanted in (({"a": 0}, False), ({"a": 0, "b": 0}, False), ({"a": 1}, True), ({"a": 0, "b": 1}, True),
                             ({"a": SIXTY, "b": 0}, True)):
            self.assertIs(bool(Sizes(told)), wanted)

    def test_equal(self):
        self.assertTrue(Sizes({"a": 1, "b": SIXTY}) == Sizes({"b": SIXTY, "a": 1}))
        for other in (Sizes({"a": 1}), Sizes({"a": 1, "b": 1}), Sizes({"a": 1, "c": SIXTY}),
                      Sizes({"a": 1, "b": SIXTY, "c": 0}), {"a": 1, "b": SIXTY}, "a", None, 1, Many(1)):
            self.assertIs(Sizes({"a": 1, "b": SIXTY}) == other, False)
            self.assertIs(other == Sizes({"a": 1, "b": SIXTY}), False)
            self.assertIs(Sizes({"a": 1, "b": SIXTY}) != other, True)


class Reckoned(unittest.TestCase):
    def test_by_counting(self):
        for one, other in itertools.product(two_kinds(), repeat=2):
            before = [one.counts(), other.counts()]
            for call, alone in ((operator.add, operator.add), (operator.and_, min), (operator.or_, max)):
                got = call(one, other)
                self.assertIs(type(got), Sizes)
                self.assertEqual(got.counts(), {kind: alone(one[kind], other[kind]) for kind in "ab"})
            self.assertIs(one.is_within(other), one["a"] <= other["a"] and one["b"] <= other["b"])
            self.assertIs(one.is_within(other=other), one.is_within(other))
            self.assertEqual([one.counts(), other.counts()], before)

    def test_times(self):
        for sizes, times in itertools.product(two_kinds(), (0, 1, 2, 7, SIXTY_MORE)):
            wanted = Sizes({kind: sizes[kind] * times for kind in "ab"})
            self.assertEqual(sizes * times, wanted)
            self.assertEqual(times * sizes, wanted)

    def test_with_count(self):
        sizes = Sizes(COUNTS)
        self.assertEqual(sizes.with_count("line", SIXTY_MORE).counts(), {**COUNTS, "line": SIXTY_MORE})
        self.assertEqual(sizes.with_count(count=0, kind="bill").counts(), {**COUNTS, "bill": 0})
        self.assertEqual(sizes.counts(), COUNTS)


class Refused(Checks, unittest.TestCase):
    def test_counts(self):
        for value in NO_COUNTS + [{}, {"a": -1}, {"a": True}, {"a": None}, {"a": "1"}, {"a": [1]}, [("a", 1)], "a",
                                  {"a": 1, "b": False}, {"a": 1, "B": 1}, Sizes({"a": 1}), {"a": Many(1)}]:
            if value != {"a": 1}:
                self.refused(InvalidSizes, value, Sizes, value)
                self.refused(InvalidSizes, value, Sizes, counts=value)

    def test_names(self):
        for name in NO_NAMES:
            self.refused(InvalidSizes, {name: 1}, Sizes, {name: 1})
            self.refused(InvalidSizes, {"a": 1, name: 1}, Sizes, {"a": 1, name: 1})

    def test_of(self):
        self.refused(InvalidSizes, {}, Sizes.of)
        self.refused(InvalidSizes, {"A": 1, "b": 2}, Sizes.of, A=1, b=2)
        for value in NO_COUNTS:
            self.refused(InvalidSizes, {"b": value, "a": 1}, Sizes.of, b=value, a=1)

    def test_unknown_kinds(self):
        sizes = Sizes(COUNTS)
        for value in NO_COUNTS + NO_NAMES + ["has", "o", slice(0, 1), ["order"]]:
            self.refused(UnknownKind, value, operator.getitem, sizes, value)
            self.refused(UnknownKind, value, sizes.with_count, value, -1)
            self.refused(UnknownKind, value, sizes.with_count, count=1, kind=value)

    def test_wrong_counts(self):
        sizes = Sizes(COUNTS)
        for value in NO_COUNTS + [sizes, -SIXTY]:
            self.refused(InvalidCount, value, sizes.with_count, "line", value)
            self.refused(InvalidCount, value, sizes.with_count, count=value, kind="line")
            self.refused(InvalidCount, value, operator.mul, sizes, value)
        self.assertEqual(sizes.counts(), COUNTS)

    def test_wrong_counts_on_the_left(self):
        sizes = Sizes(COUNTS)
        for value in strange_values() + [shop(), -SIXTY]:
            self.refused(InvalidCount, value, operator.mul, value, sizes)
        self.refused(InvalidMany, sizes, operator.mul, Many(1), sizes)

    def test_no_other_sizes(self):
        sizes = Sizes({"a": 1, "b": 2})
        for value in NO_COUNTS + [{"a": 1, "b": 2}, Sizes({"a": 1}), Sizes({"a": 1, "c": 2}), 0,
                                  Sizes({"a": 1, "b": 2, "c": 0})]:
            for call in (operator.add, operator.and_, operator.or_, Sizes.is_within):
                self.refused(InvalidSizes, value, call, sizes, value)
            self.refused(InvalidSizes, value, sizes.is_within, other=value)


class ForModels(Checks, unittest.TestCase):
    def test_dicts_and_sizes(self):
        told = {"line": 2, "bill": 0, "order": SIXTY}
        self.assertEqual(sizes_for(shop(), told), Sizes(told))
        self.assertEqual(sizes_for(shop(), Sizes(told)), Sizes(told))

    def test_refused(self):
        for value in NO_COUNTS + [{}, {"line": 2, "bill": 0}, {"line": 2, "bill": 0, "order": -1}, Sizes({"line": 1}),
                                  {"line": 2, "bill": 0, "order": 1, "x": 0}, {"line": 2, "bill": 0, "x": 0},
                                  Sizes({"line": 2, "bill": 0, "order": 1, "x": 0}), [1, 2, 3]]:
            self.refused(InvalidSizes, value, sizes_for, shop(), value)


if __name__ == "__main__":
    unittest.main()
