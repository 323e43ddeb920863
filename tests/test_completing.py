"""The least completion sizes, what a Told lacks, the sizes that fit, and cuts."""

import unittest

from howmanyeach.bounding import least_sizes
from howmanyeach.completing import (can_complete, cut_of, fits_sizes, is_cut, lacks_of, least_completion)
from howmanyeach.errors import InvalidEnd, InvalidSizes, InvalidTold, UnknownLink
from howmanyeach.manys import Many
from howmanyeach.models import Model
from howmanyeach.sizes import Sizes
from tests import oracle
from tests.brute import Fits, all_cuts, lack_and_offer, some_tolds, told_with
from tests.helpers import SIXTY, Checks, own_things, shop, strange_values, wrong_sizes
from tests.test_bounding import turned_round, zeros
from tests.test_rings import around, is_paper, sick
from tests.test_told import state

ONE = Many.just(1)
ENDS = ("near", "far")


class Least(Checks, unittest.TestCase):
    def check(self, told, least):
        before = state(told)
        self.assertEqual(least_completion(told), Sizes(least))
        self.assertEqual(least_completion(told=told), Sizes(least))
        self.assertIs(type(least_completion(told)), Sizes)
        self.assertEqual(state(told), before)

    def lacking(self, told, lacks):
        before = state(told)
        self.assertEqual(list(lacks_of(told).items()), sorted(lacks.items()))
        self.assertEqual(lacks_of(told=told), lacks)
        self.assertEqual(state(told), before)

    def test_all_sets_of_pairs(self):
        found = []
        for told in some_tolds(250, 81):
            if not can_complete(told):
                continue
            fits = Fits(told)
            least = least_completion(told)
            self.assertIn(fits(least.counts()), (True, None))
            some = [sizes for sizes in oracle.box(told.model, 4) if fits(sizes)]
            for sizes in some:
                self.assertTrue(least.is_within(Sizes(sizes)))
            if some:
                # The least ones of these are in the box, too, for sizes that fit are closed under the least of both.
                self.check(told, {kind: min(sizes[kind] for sizes in some) for kind in told.model.kinds()})
                self.lacking(told, {kind: least[kind] - len(told.rows(kind)) for kind in told.model.kinds()})
                found.append(sum(lacks_of(told).values()) > 0)
            self.wishes(told, some)
        self.assertGreater(min(found.count(True), found.count(False)), 20)

    def wishes(self, told, some):
        wished = [sizes for sizes in oracle.box(told.model, 2)
                  if not any(sizes[kind] and not oracle.is_full(told.model, kind) for kind in sizes)]
        for wish in wished:
            lacks = lacks_of(told)
            told.wished = wish
            least = least_completion(told)
            self.assertTrue(Sizes(wish).is_within(least))
            self.assertTrue(fits_sizes(told, least))
            above = [sizes for sizes in some if all(sizes[kind] >= wish[kind] for kind in wish)]
            if above:
                self.check(told, {kind: min(sizes[kind] for sizes in above) for kind in told.model.kinds()})
            self.assertEqual(lacks_of(told), lacks)

    def test_without_told_rows(self):
        for model in [*oracle.some_models(60, 82), *oracle.ring_models(40, 83)]:
            full = [kind for kind in model.kinds() if oracle.is_full(model, kind)]
            told = told_with(model, {}, wished={kind: at for at, kind in enumerate(full)})
            self.check(told, least_sizes(model, told.wished).counts())
            self.lacking(told, {kind: 0 for kind in model.kinds()})

    def test_by_hand(self):
        told = told_with(shop(), {"order": "m", "line": "x"}, {"has": "mx"})
        self.check(told, {"bill": 1, "line": 2, "order": 2})
        self.lacking(told, {"bill": 1, "line": 1, "order": 1})
        told.wished = {"bill": 4, "line": 1, "order": 0}
        self.check(told, {"bill": 4, "line": 8, "order": 8})
        self.lacking(told, {"bill": 1, "line": 1, "order": 1})
        # An order with three lines: the others need one each.
        told = told_with(shop(), {"order": "mn", "line": "xyz", "bill": "b"}, {"has": "mx my mz", "paid": "mb nb"})
        self.check(told, {"bill": 1, "line": 4, "order": 2})
        # Two bills of which one has three orders already, with one order between them that has none.
        told = told_with(shop(), {"order": "mnop", "bill": "bc"}, {"paid": "mb nb ob"})
        self.check(told, {"bill": 2, "line": 5, "order": 5})

    def test_a_kind_with_itself(self):
        model = Model(["a"], {"l": ("a", Many(2), "a", Many(1, 3))})
        self.check(told_with(model, {"a": "x"}, {"l": "xx"}), {"a": 2})
        self.check(told_with(model, {"a": "x"}), {"a": 2})
        told = told_with(model, {"a": "xy"}, {"l": "xx xy yy"})
        self.check(told, {"a": 2})
        told = told_with(Model(["a"], {"l": ("a", ONE, "a", ONE)}), {"a": "xyz"}, {"l": "xy yz"})
        self.check(told, {"a": 3})
        told = told_with(Model(["a"], {"l": ("a", Many(3, 4), "a", Many(3, 5))}), {"a": "xyz"}, {"l": "xx xy xz yx"})
        self.check(told, {"a": 3})

    def test_a_ring_just_below_1(self):
        model = around(4, 6, 4, 3, 5, 3, 4, 6, 6, 6)
        told = told_with(model, {"a": "x", "b": "abcdefghijkl"}, {"l": " ".join("x" + name for name in "abcdefghijkl")})
        least = least_completion(told)
        self.assertTrue(fits_sizes(told, least))
        # x has 8 partners more than it needs: the ring has to be so great that these are to spare.
        self.assertGreater(least["a"], least_sizes(model, zeros(model, a=1))["a"])
        for kind in "abcde":
            self.assertFalse(fits_sizes(told, least.with_count(kind, least[kind] - 1)))

    def test_many_digits(self):
        told = told_with(shop(), {"order": "m", "line": "x"}, {"has": "mx"}, {"order": SIXTY})
        self.check(told, {"bill": -(-SIXTY // 3), "line": SIXTY, "order": SIXTY})
        told = told_with(shop(), {"order": "mn", "line": "xyz", "bill": "b"}, {"has": "mx my mz", "paid": "mb nb"},
                         {"bill": SIXTY})
        self.check(told, {"bill": SIXTY, "line": 2 * SIXTY + 2, "order": 2 * SIXTY})
        model = around(4, 6, 4, 3, 5, 3, 4, 6, 6, 6)
        told = told_with(model, {"c": "x"}, wished={"d": SIXTY})
        self.check(told, least_sizes(model, zeros(model, d=SIXTY)).counts())

    def test_empty_kinds(self):
        told = told_with(sick(), {"e": "x"}, wished={"d": 1, "b": SIXTY})
        self.empty("b", lambda paper: is_paper(sick(), "b", paper), least_completion, told)
        self.empty("b", lambda paper: is_paper(sick(), "b", paper), least_completion, told=told)
        self.lacking(told, zeros(sick(), e=1))
        told = told_with(sick(), {"e": "x"}, wished={"e": 4})
        self.check(told, zeros(sick(), e=4))
        self.check(told_with(sick(), {"e": "x"}), zeros(sick(), e=2))

    def test_without_links(self):
        told = told_with(Model(["a", "b"]), {"a": "xyz"}, wished={"a": 2, "b": SIXTY})
        self.check(told, {"a": 3, "b": SIXTY})
        self.lacking(told, {"a": 0, "b": 0})
        lacks_of(told).clear()
        self.lacking(told, {"a": 0, "b": 0})


class FitsAndCuts(Checks, unittest.TestCase):
    def fits(self, told, sizes, is_it):
        for given in (sizes, turned_round(sizes), Sizes(sizes)):
            self.assertIs(fits_sizes(told, given), is_it)
            self.assertIs(fits_sizes(sizes=given, told=told), is_it)

    def cuts(self, told, sizes, link, end):
        before = state(told)
        wanted = all_cuts(told, sizes, link, end)
        cut = cut_of(told, sizes, link, end)
        self.assertEqual(cut_of(end=end, link=link, sizes=Sizes(sizes), told=told), cut)
        self.assertIs(cut is None, not wanted)
        if wanted:
            self.assertIs(type(cut), tuple)
            self.assertIn(cut, wanted)
        rows = sorted(told.rows(told.model.kind_at(link, end)))
        for names in [tuple(rows[:many]) for many in range(len(rows) + 1)] + [tuple(rows[1:])]:
            for is_new in (False, True):
                is_it = (names, is_new) in wanted
                self.assertIs(is_cut(told, sizes, link, end, (names, is_new)), is_it)
                self.assertIs(is_cut(value=(names, is_new), end=end, link=link, sizes=Sizes(sizes), told=told), is_it)
        self.assertEqual(state(told), before)
        return bool(wanted)

    def test_all_sets_of_pairs(self):
        found = []
        for told in some_tolds(200, 84):
            fits = Fits(told)
            for sizes in oracle.box(told.model, 4):
                if any(sizes[kind] < len(told.rows(kind)) for kind in sizes):
                    self.fits(told, sizes, False)
                    continue
                has_cut = any([self.cuts(told, sizes, link, end) for link in told.model.links() for end in ENDS])
                is_past = any(told.degree(link, end, row) not in Many(0, told.model.many_at(link, end).most)
                              for link in told.model.links() for end in ENDS
                              for row in told.rows(told.model.kind_at(link, end)))
                is_it = fits(sizes)
                self.assertIn(is_it, (None, not has_cut and not is_past))
                self.fits(told, sizes, not has_cut and not is_past)
                found.append(is_it)
        self.assertGreater(min(found.count(True), found.count(False)), 300)

    def test_more_told_rows(self):
        """More told rows than there can be partners, with great and small sizes, by all sets of told rows."""
        found = []
        for near, far in ((Many(2, 4), Many(1, 3)), (Many(4, 6), Many(0, 6)), (Many(3), Many(0, 2)), (Many(1, 5), Many(2)),
                          (Many(2), Many(1))):
            model = Model(["a", "b"], {"l": ("a", near, "b", far)})
            for pairs in ("", "xu", "xu xv yu", "zu zv zw yw", "xu yu zu", "xu xv xw yu yv yw"):
                told = told_with(model, {"a": "zyxw", "b": "wvu"}, {"l": pairs})
                for a in (4, 5, 6, 9, SIXTY):
                    for b in (3, 4, 7, 12, SIXTY, 4 * SIXTY):
                        for end in ENDS:
                            found.append(self.cuts(told, {"a": a, "b": b}, "l", end))
        self.assertGreater(min(found.count(True), found.count(False)), 100)

    def test_by_hand(self):
        told = told_with(shop(), {"order": "mn", "bill": "b"}, {"paid": "mb"})
        for sizes, end, value, is_it in (
                ({"order": 4, "bill": 1}, "near", ((), True), False), ({"order": 4, "bill": 1}, "near", (("n",), True), True),
                ({"order": 4, "bill": 1}, "near", (("m", "n"), True), True), ({"order": 3, "bill": 1}, "near", (("n",), True), False),
                ({"order": 4, "bill": 1}, "near", (("n",), False), False), ({"order": 4, "bill": 1}, "near", ((), False), False),
                ({"order": 3, "bill": 2}, "far", (("b",), True), True), ({"order": 4, "bill": 2}, "far", (("b",), True), False),
                ({"order": 3, "bill": 2}, "far", ((), True), False), ({"order": 2, "bill": 3}, "far", ((), True), True)):
            sizes = {"line": 0, **sizes}
            self.assertIs(is_cut(told, sizes, "paid", end, value), is_it)
            lack, offer = lack_and_offer(told, sizes, "paid", end, *value)
            self.assertIs(lack > offer, is_it)
            self.cuts(told, sizes, "paid", end)
        self.fits(told, {"order": 4, "bill": 2, "line": 4}, True)
        self.fits(told, {"order": 4, "bill": 2, "line": 3}, False)
        self.fits(told, {"order": 4, "bill": 2, "line": 24}, True)
        self.fits(told, {"order": 4, "bill": 2, "line": 25}, False)
        self.fits(told, {"order": 1, "bill": 1, "line": 4}, False)
        self.fits(told, {"order": 4, "bill": 0, "line": 4}, False)

    def test_a_row_that_is_past(self):
        told = told_with(shop(), {"order": "mn", "line": "xy", "bill": "b"}, {"has": "mx nx my"})
        sizes = {"order": 2, "line": 2, "bill": 1}
        self.assertIs(is_cut(told, sizes, "has", "near", ((), False)), True)
        self.assertEqual(lack_and_offer(told, sizes, "has", "near", (), False), (0, -1))
        self.assertTrue(self.cuts(told, sizes, "has", "near"))
        self.assertTrue(self.cuts(told, {kind: SIXTY for kind in sizes}, "has", "near"))
        self.assertFalse(self.cuts(told, sizes, "has", "far"))
        self.fits(told, sizes, False)
        self.fits(told, {"order": 2 * SIXTY, "line": 2 * SIXTY, "bill": SIXTY}, False)

    def test_many_digits(self):
        told = told_with(shop(), {"order": "mn", "line": "xyz", "bill": "b"}, {"has": "mx my mz", "paid": "mb nb"})
        for order, line, is_it in ((2 * SIXTY, 2 * SIXTY + 2, True), (2 * SIXTY, 2 * SIXTY + 1, False),
                                   (2 * SIXTY, 12 * SIXTY, True), (2 * SIXTY, 12 * SIXTY + 1, False)):
            sizes = {"order": order, "line": line, "bill": SIXTY}
            self.fits(told, sizes, is_it)
            self.assertIs(any([self.cuts(told, sizes, "has", end) for end in ENDS]), not is_it)
        for bill, is_it in ((SIXTY, True), (SIXTY + 1, False), (2 * SIXTY // 3 + 1, True), (2 * SIXTY // 3, False)):
            self.fits(told, {"order": 2 * SIXTY, "line": 3 * SIXTY, "bill": bill}, is_it)

    def test_a_kind_with_itself(self):
        found = []
        for near, far in ((Many(2, 3), Many(1, 3)), (Many(3), Many(0, 4)), (ONE, Many(0, 2))):
            model = Model(["a"], {"l": ("a", near, "a", far)})
            for pairs in ("", "xx", "xy yx xz", "xx yx", "xz yz zz"):
                told = told_with(model, {"a": "zyx"}, {"l": pairs})
                for number in (3, 4, 5, SIXTY):
                    has_cut = any([self.cuts(told, {"a": number}, "l", end) for end in ENDS])
                    found.append(has_cut)
        self.assertGreater(min(found.count(True), found.count(False)), 5)

    def test_other_values(self):
        told = told_with(shop(), {"order": "mn", "bill": "b"}, {"paid": "mb"})
        sizes = {"order": 6, "line": 6, "bill": 1}
        self.assertIs(is_cut(told, sizes, "paid", "near", (("m", "n"), True)), True)
        for value in [(("n", "m"), True), (("n", "n"), True), (("m", "n"), 1), (["m", "n"], True), [("m", "n"), True],
                      (("m", "n"),), (("m", "n"), True, True), (("m", "b"), True), (("b",), True), (("n", "z"), True),
                      ("n", True), (True, ("m", "n")), (("m", "n"), None), ((("m",), "n"), True), (("order", "n"), True),
                      ({"m": 1, "n": 1}, True)] + strange_values() + own_things():
            self.assertIs(is_cut(told, sizes, "paid", "near", value), False)
        for value in strange_values() + own_things():
            is_names = isinstance(value, tuple) and not value
            self.assertIs(is_cut(told, sizes, "paid", "near", (value, True)), is_names)
            self.assertIs(is_cut(told, sizes, "paid", "near", (("n",), value)), value is True)
            self.assertIs(is_cut(told, sizes, "paid", "near", (("n", value), True)), False)

    def test_refused(self):
        told = told_with(shop(), {"order": "mn", "bill": "b"}, {"paid": "mb"})
        sizes = {"order": 6, "line": 6, "bill": 1}
        few = [{"order": 1, "line": 6, "bill": 1}, Sizes({"order": 6, "line": 6, "bill": 0})]
        for value in few:
            self.assertIs(fits_sizes(told, value), False)
        for value in wrong_sizes(["order", "line", "bill"]):
            self.refused(InvalidSizes, value, fits_sizes, told, value)
            self.refused(InvalidSizes, value, fits_sizes, sizes=value, told=told)
        for call, rest in ((cut_of, {}), (is_cut, {"value": 1})):
            for value in wrong_sizes(["order", "line", "bill"]) + few:
                self.refused(InvalidSizes, value, call, told, value, "x", "y", *rest.values())
                self.refused(InvalidSizes, value, call, **rest, end="near", link="has", sizes=value, told=told)
            for value in strange_values() + own_things():
                self.refused(InvalidTold, value, call, value, 1, 1, 1, *rest.values())
                self.refused(UnknownLink, value, call, told, sizes, value, 1, *rest.values())
                if value != "near":
                    self.refused(InvalidEnd, value, call, **rest, end=value, link="has", sizes=sizes, told=told)
        for value in strange_values() + own_things():
            self.refused(InvalidTold, value, fits_sizes, value, 1)
            self.refused(InvalidTold, value, fits_sizes, sizes=1, told=value)


if __name__ == "__main__":
    unittest.main()
