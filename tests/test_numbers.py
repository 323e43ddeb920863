"""How many rows a kind can have."""

import itertools
import unittest

from howmanyeach.bounding import least_sizes
from howmanyeach.errors import InvalidCount, InvalidModel, TooMany, UnknownKind
from howmanyeach.manys import Many
from howmanyeach.models import Model
from howmanyeach.numbers import gaps_of, is_size, many_below, size_at, size_from, sizes_from, unit_of
from howmanyeach.rings import groups_of
from tests import oracle
from tests.helpers import SIXTY, Checks, own_things, shop, strange_values
from tests.test_bounding import zeros
from tests.test_rings import around, is_paper, sick

ONE = Many.just(1)


def fives():
    return Model(["a", "b"], {"l": ("a", ONE, "b", Many(5, 6))})


def just_below():
    """A ring through five kinds with a product just below 1."""
    return around(5, 6, 4, 3, 4, 5, 4, 6, 5, 3)


class Small(Checks, unittest.TestCase):
    def sizes_in(self, model, kind, top, room):
        """The sizes of a kind up to a number, by trying all sizes of the others up to a room."""
        others = [other for other in model.kinds() if other != kind]
        found = []
        for number in range(top + 1):
            for counts in itertools.product(range(room + 1), repeat=len(others)):
                if oracle.gap(model, {kind: number, **dict(zip(others, counts))}) is None:
                    found.append(number)
                    break
        return found

    def check(self, model, kind, found, top):
        unit = unit_of(kind=kind, model=model)
        gaps = gaps_of(model, kind)
        self.assertEqual(gaps_of(kind=kind, model=model), gaps)
        self.assertEqual([gap for gap in gaps if gap <= top],
                         [number for number in range(0, top + 1, unit) if number not in found])
        for number in range(top + 1):
            self.assertIs(is_size(model, kind, number), number in found)
            self.assertIs(is_size(number=number, kind=kind, model=model), number in found)
            if number <= found[-1]:
                following = min(size for size in found if size >= number)
                self.assertEqual(size_from(model, kind, number), following)
                self.assertEqual(size_from(number=number, kind=kind, model=model), following)
            below = len([size for size in found if size < number])
            self.assertEqual(many_below(model, kind, number), below)
            self.assertEqual(many_below(number=number, kind=kind, model=model), below)
            some = list(sizes_from(model, kind, number, many=4))
            wanted = [size for size in found if size >= number][:4]
            self.assertEqual(some[:len(wanted)], wanted)
            self.assertEqual(len(some), 4)
        for place, size in enumerate(found):
            self.assertEqual(size_at(model, kind, place), size)
            self.assertEqual(size_at(place=place, kind=kind, model=model), size)

    def test_all_sizes_of_the_others(self):
        found = 0
        for model in oracle.some_models(60, 61, kinds=3, links=4):
            for kind in model.kinds():
                if oracle.is_full(model, kind):
                    # Ratios are at most 9, and least numbers at most 3: more of the others never help.
                    sizes = self.sizes_in(model, kind, 6, 54 if len(model.kinds()) < 3 else 18)
                    self.check(model, kind, sizes, 6)
                    found += len(sizes) < 7
        self.assertGreater(found, 5)

    def test_rings(self):
        """By the fact on least sizes, told by the tests' own rounds."""
        found = []
        for model in oracle.ring_models(25, 62):
            for kind in model.kinds():
                sizes = [number for number in range(31) if oracle.least(model, {kind: number})[kind] == number]
                try:
                    self.check(model, kind, sizes, 30)
                except TooMany as error:
                    self.assertEqual((error.what, error.limit), ("gaps", 300))
                found.append(len(sizes))
        self.assertGreater(len(set(found)), 10)


class ByHand(Checks, unittest.TestCase):
    def test_the_document(self):
        self.assertEqual(gaps_of(fives(), "a"), [1, 2, 3, 4, 7, 8, 9, 13, 14, 19])
        self.assertEqual(list(sizes_from(fives(), "a", 1, many=5)), [5, 6, 10, 11, 12])
        self.assertIs(is_size(fives(), "a", 10 ** 40), True)
        self.assertEqual([many_below(fives(), "a", 20), size_at(fives(), "a", 7)], [10, 16])
        self.assertEqual([gaps_of(fives(), "b"), unit_of(fives(), "a"), unit_of(fives(), "b")], [[], 1, 1])
        self.assertEqual(gaps_of(shop(), "order"), [1])

    def test_without_links(self):
        model = Model(["a", "b"])
        self.assertEqual([gaps_of(model, "a"), unit_of(model, "a"), many_below(model, "a", SIXTY), size_at(model, "b", 7)],
                         [[], 1, SIXTY, 7])

    def test_a_kind_with_itself(self):
        model = Model(["a"], {"l": ("a", Many(4), "a", Many(2))})
        self.assertEqual([gaps_of(model, "a"), many_below(model, "a", 4), many_below(model, "a", 5)], [[1, 2, 3], 1, 2])

    def test_units(self):
        self.assertEqual(groups_of(around(2, 3, 3, 5, 5, 2)), [(("a", "b", "c"), (15, 10, 6))])
        model = around(2, 3, 3, 5, 5, 2)
        self.assertEqual([unit_of(model, kind) for kind in "abc"], [15, 10, 6])
        self.assertEqual([size_from(model, "a", number) for number in (0, 1, 15, 16, 15 * SIXTY + 1)],
                         [0, 15, 15, 30, 15 * SIXTY + 15])
        self.assertEqual([many_below(model, "a", number) for number in (0, 1, 15, 16, 30, 31)], [0, 1, 1, 2, 2, 3])
        self.assertEqual([size_at(model, "b", place) for place in (0, 1, SIXTY)], [0, 10, 10 * SIXTY])
        self.assertEqual(gaps_of(model, "c"), [])

    def test_units_above_1000(self):
        # a to b to c to d to e, each six times as many: a row of a comes to 1296 of e.
        links = {"lmno"[at]: ("abcde"[at], Many.just(6), "abcde"[at + 1], ONE) for at in range(4)}
        model = Model(list("abcde"), links)
        self.assertEqual([unit_of(model, kind) for kind in "abcde"], [1, 6, 36, 216, 1296])
        self.assertEqual([is_size(model, "e", 1296 * 5), is_size(model, "e", 1296 * 5 + 648)], [True, False])
        self.assertEqual(size_from(model, "e", 10 ** 59), -(-10 ** 59 // 1296) * 1296)
        self.assertEqual(list(sizes_from(model, "e", 1297, many=3)), [2592, 3888, 5184])
        self.assertEqual([gaps_of(model, "e"), many_below(model, "e", 5185), size_at(model, "e", SIXTY)],
                         [[], 5, 1296 * SIXTY])
        model = model.with_many("l", "near", Many.just(5)).with_many("m", "far", Many.just(5))
        self.assertEqual([unit_of(model, kind) for kind in "abcde"], [1, 5, 6, 36, 216])
        model = Model(list("abcde"), {**links, "r": ("a", Many(3), "a", Many(0))})
        self.assertEqual([gaps_of(model, "e"), size_at(model, "e", 1)], [[1296, 2592], 3888])
        self.assertEqual([many_below(model, "e", 1297), many_below(model, "e", 3889)], [1, 2])

    def test_many_digits(self):
        self.assertEqual([size_from(fives(), "a", SIXTY), size_from(fives(), "b", SIXTY)], [SIXTY, SIXTY])
        self.assertEqual([many_below(fives(), "a", SIXTY), size_at(fives(), "a", SIXTY)], [SIXTY - 10, SIXTY + 10])
        self.assertEqual(list(sizes_from(fives(), "a", SIXTY, many=3)), [SIXTY, SIXTY + 1, SIXTY + 2])
        self.assertEqual([is_size(shop(), kind, SIXTY) for kind in ("bill", "line", "order")], [True, True, True])

    def test_gaps_behind_sizes(self):
        """Gaps come behind long rows of sizes: as many sizes as the least one has units end them."""
        model = Model(["a", "b", "c"], {"l": ("a", ONE, "b", Many(5, 6)), "m": ("a", ONE, "c", Many(4, 5))})
        sizes = [number for number in range(60) if oracle.least(model, {"a": number})["a"] == number]
        self.assertEqual(gaps_of(model, "a"), [number for number in range(60) if number not in sizes])

    def test_300_gaps(self):
        model = around(5, 6, 4, 6, 2, 6, 4, 3, 4, 1)
        gaps = gaps_of(model, "a")
        self.assertEqual(len(gaps), 300)
        self.assertEqual(gaps, self.told_gaps(model, "a"))
        self.assertEqual([many_below(model, "a", SIXTY), size_at(model, "a", SIXTY)], [SIXTY - 300, SIXTY + 300])
        model = around(4, 3, 2, 3, 1, 6, 5, 3, 4, 1)
        self.assertEqual(len(self.told_gaps(model, "c")), 301)
        for call, rest in ((gaps_of, ()), (many_below, (0,)), (size_at, (0,))):
            error = self.raised(TooMany, call, model, "c", *rest)
            self.assertEqual((error.what, error.limit), ("gaps", 300))

    def told_gaps(self, model, kind):
        """The gaps, all of them below 1000."""
        return [number for number in range(1000) if oracle.least(model, {kind: number})[kind] != number]


class TooManyGaps(Checks, unittest.TestCase):
    def test_a_ring_just_below_1(self):
        model = just_below()
        for kind in "abcde":
            sizes = [number for number in range(1000) if oracle.least(model, {kind: number})[kind] == number]
            gaps = [number for number in range(1000) if number not in sizes]
            self.assertLess(gaps[-1], 700)
            if len(gaps) <= 300:
                self.assertEqual(gaps_of(model, kind), gaps)
            else:
                self.too_many(model, kind)

    def too_many(self, model, kind):
        for number in (0, 1, 5, SIXTY):
            for error in (self.raised(TooMany, gaps_of, model, kind), self.raised(TooMany, many_below, model, kind, number),
                          self.raised(TooMany, size_at, model, kind, number)):
                self.assertEqual((error.what, error.limit), ("gaps", 300))

    def test_more_than_300(self):
        model = self.model()
        self.too_many(model, "e")
        first = size_from(model, "e", 1)
        self.assertEqual(first, oracle.least(model, {"e": 1})["e"])
        self.assertGreater(first, 301)
        self.assertEqual([is_size(model, "e", first), is_size(model, "e", first - 1), is_size(model, "e", 10 ** 50)],
                         [True, False, True])
        self.assertEqual(list(sizes_from(model, "e", 1, many=2))[0], first)

    def model(self):
        """A row of e is one of at least 6 of a d, which is one of at least 6 of a c, and so on."""
        return Model(list("abcde"), {"lmno"[at]: ("abcde"[at], Many(6), "abcde"[at + 1], ONE) for at in range(4)})

    def test_errors_of_parameters_come_first(self):
        for call in (many_below, size_at):
            self.refused(InvalidCount, -1, call, self.model(), "e", -1)
        self.assertEqual(gaps_of(self.model(), "c"), list(range(1, 36)))
        self.assertEqual(len(gaps_of(self.model(), "d")), 215)


class Generator(Checks, unittest.TestCase):
    def test_how_many(self):
        for many in range(7):
            self.assertEqual(list(sizes_from(fives(), "a", 11, many=many)), [11, 12, 15, 16, 17, 18][:many])
        self.assertEqual(list(sizes_from(many=3, number=0, kind="a", model=fives())), [0, 5, 6])

    def test_two_at_once(self):
        one, two = sizes_from(fives(), "a", 0, many=9), sizes_from(fives(), "a", 0, many=9)
        self.assertEqual([next(one), next(one), next(two), next(one), next(two), next(two)], [0, 5, 0, 6, 5, 6])
        self.assertEqual(list(one), [10, 11, 12, 15, 16, 17])
        self.assertEqual(list(two), [10, 11, 12, 15, 16, 17])
        self.assertEqual(list(one), [])

    def test_left_early(self):
        told = sizes_from(fives(), "b", 5, many=10 ** 40)
        self.assertEqual([next(told) for _ in range(3)], [5, 6, 7])
        told.close()
        for size in sizes_from(fives(), "a", 3, many=SIXTY):
            if size > 100:
                break
        self.assertEqual(size, 101)

    def test_errors_at_the_first_size(self):
        def first(*values, **named):
            return next(sizes_from(*values, **named))
        for value in strange_values() + own_things():
            if not isinstance(value, Model):
                self.refused(InvalidModel, value, first, value, 1, -1, many=-1)
            if value != "a":
                self.refused(UnknownKind, value, first, fives(), value, -1, many=-1)
            self.refused(InvalidCount, value, first, fives(), "a", value, many=-2)
            self.refused(InvalidCount, value, first, many=value, number=1, kind="a", model=fives())
        self.refused(InvalidCount, -3, first, sick(), "a", 1, many=-3)
        self.refused(InvalidCount, -3, list, sizes_from(sick(), "a", 1, many=-3))
        for many in (0, 5):
            self.empty("a", lambda paper: is_paper(sick(), "a", paper), list, sizes_from(sick(), "a", 1, many=many))
        self.assertRaises(TypeError, sizes_from, fives(), "a", 1, 5)


class Refused(Checks, unittest.TestCase):
    WITHOUT = (unit_of, gaps_of)
    WITH = (is_size, size_from, many_below)

    def test_each_parameter(self):
        for value in strange_values() + own_things():
            for call in self.WITHOUT + self.WITH + (size_at,):
                rest = () if call in self.WITHOUT else (-1,)
                if not isinstance(value, Model):
                    self.refused(InvalidModel, value, call, value, 1, *rest)
                if value != "a":
                    self.refused(UnknownKind, value, call, sick(), value, *rest)
                    self.refused(UnknownKind, value, call, fives(), value, *rest)
                if rest:
                    self.refused(InvalidCount, value, call, sick(), "a", value)
            for call in self.WITH:
                self.refused(InvalidCount, value, call, number=value, kind="a", model=fives())
            self.refused(InvalidCount, value, size_at, place=value, kind="a", model=fives())

    def test_empty_kinds(self):
        for kind in "abcd":
            for call, rest in [(unit_of, ()), (gaps_of, ())] + [(call, (number,)) for call in self.WITH + (size_at,)
                                                                for number in (0, 5)]:
                self.empty(kind, lambda paper: is_paper(sick(), kind, paper), call, sick(), kind, *rest)
        self.assertEqual([gaps_of(sick(), "e"), unit_of(sick(), "e")], [[1], 1])

    def test_what_is_returned_can_be_changed(self):
        gaps_of(fives(), "a").clear()
        self.assertEqual(len(gaps_of(fives(), "a")), 10)
        self.assertEqual(least_sizes(fives(), zeros(fives(), a=7))["a"], 10)


if __name__ == "__main__":
    unittest.main()
