"""Claims, and the certificates of the true ones."""

import unittest

from howmanyeach.bounding import least_sizes, raise_paper
from howmanyeach.claims import KINDS, certificate_of, is_certificate, is_claim
from howmanyeach.completing import completion, obstacle_of
from howmanyeach.databases import Database
from howmanyeach.errors import InvalidClaim, TooMany
from howmanyeach.manys import Many
from howmanyeach.models import Model
from howmanyeach.normal import are_alike
from howmanyeach.parting import can_have_row, least_with, parting_of
from howmanyeach.rings import empty_paper
from howmanyeach.sizes import Sizes
from howmanyeach.told import Told
from tests import oracle
from tests.brute import some_tolds, told_with
from tests.helpers import SIXTY, Checks, own_things, shop, strange_values, wrong_sizes
from tests.test_bounding import turned_round, zeros
from tests.test_rings import is_paper, sick
from tests.test_told import state

ONE = Many.just(1)
SIZES = {"order": 2, "line": 5, "bill": 1}


class Claims(Checks, unittest.TestCase):
    def test_kinds(self):
        self.assertEqual(KINDS, ("full", "empty", "let", "at least", "parted", "completes", "lacking"))

    def claim(self, value, is_it):
        self.assertIs(is_claim(value), is_it, value)
        self.assertIs(is_claim(value=value), is_it)
        if not is_it:
            self.refused(InvalidClaim, value, certificate_of, value)
            self.refused(InvalidClaim, value, certificate_of, claim=value)
            self.refused(InvalidClaim, value, is_certificate, value, 1)
            self.refused(InvalidClaim, value, is_certificate, value=1, claim=value)

    def right(self):
        told = Told(shop())
        return [("full", shop(), "order"), ("empty", shop(), "line"), ("let", shop(), SIZES), ("let", shop(), Sizes(SIZES)),
                ("let", shop(), {"order": 9, "line": 0, "bill": 0}), ("at least", shop(), SIZES, "line", 9),
                ("at least", shop(), Sizes(SIZES), "bill", 0), ("at least", sick(), zeros(sick(), e=1), "a", 1),
                ("parted", shop(), shop()), ("parted", shop(), shop().with_many("has", "near", Many(0))),
                ("completes", told), ("lacking", told), ("full", sick(), "a"), ("empty", sick(), "a")]

    def test_right_ones(self):
        for value in self.right():
            self.claim(value, True)

    def test_wrong_ones(self):
        for value in strange_values() + own_things() + [Told(shop()), Sizes(SIZES)]:
            self.claim(value, False)
        for value in self.right():
            for other in (list(value), value[:-1], value + (1,), (value,), (True,) + value[1:], ("fully",) + value[1:],
                          value[1:], (value[0].upper(),) + value[1:], (None,) + value[1:], ([],) + value[1:]):
                self.claim(other, False)
            for place in range(1, len(value)):
                for part in strange_values() + [Ratio, Sizes({"z": 1})]:
                    if not (value[0] == "at least" and place in (3, 4)) and not (part == "a" and value[1] == sick()):
                        self.claim(value[:place] + (part,) + value[place + 1:], False)

    def test_parts(self):
        for value in wrong_sizes(["order", "line", "bill"]):
            self.claim(("let", shop(), value), False)
            self.claim(("at least", shop(), value, "order", 1), False)
        for number in (True, -1, None, "1", ONE):
            self.claim(("at least", shop(), SIZES, "order", number), False)
        for kind in ("has", "orders", None, [], ONE):
            self.claim(("at least", shop(), SIZES, kind, 1), False)
            self.claim(("full", shop(), kind), False)
            self.claim(("empty", shop(), kind), False)
        for kind in "abcd":
            self.claim(("at least", sick(), zeros(sick(), **{kind: 1}), "e", 1), False)
            self.claim(("let", sick(), zeros(sick(), **{kind: 1})), True)
        self.claim(("parted", shop(), sick()), False)
        self.claim(("parted", shop(), shop().turned("has")), False)
        self.claim(("completes", shop()), False)
        self.claim(("lacking", Told(shop()), 1), False)


class Ratio:
    """No class of the package."""


class Certificates(Checks, unittest.TestCase):
    def told(self, claim, is_true):
        """What certificate is told; it is accepted."""
        value = certificate_of(claim)
        self.assertEqual(certificate_of(claim=claim), value)
        self.assertIs(value is not None, is_true, claim)
        if is_true:
            self.judge(claim, value, True)
        self.assertIs(is_certificate(claim, None), False)
        return value

    def judge(self, claim, value, is_it):
        self.assertIs(is_certificate(claim, value), is_it, (claim, value))
        self.assertIs(is_certificate(value=value, claim=claim), is_it)

    def strange(self, claim, but=()):
        for value in strange_values() + own_things():
            if value not in but:
                self.judge(claim, value, False)

    def test_full_or_empty(self):
        for model in [*oracle.some_models(80, 101), shop(), sick()]:
            for kind in model.kinds():
                is_full = oracle.is_full(model, kind)
                sizes = self.told(("full", model, kind), is_full)
                paper = self.told(("empty", model, kind), not is_full)
                if is_full:
                    self.assertTrue(sizes[kind] > 0 and oracle.gap(model, sizes) is None)
                    self.judge(("full", model, kind), Sizes(sizes.counts()), True)
                    self.judge(("full", model, kind), turned_round(sizes.counts()), True)
                else:
                    self.assertTrue(is_paper(model, kind, paper))

    def test_full(self):
        claim = ("full", shop(), "line")
        for sizes, is_it in (({"order": 2, "line": 5, "bill": 1}, True), ({"order": 0, "line": 0, "bill": 0}, False),
                             ({"order": 1, "line": 5, "bill": 1}, False), ({"order": 2 * SIXTY, "line": 9 * SIXTY, "bill": SIXTY}, True),
                             ({"order": 2, "line": 5}, False), ({"order": 2, "line": 5, "bill": True}, False)):
            self.judge(claim, sizes, is_it)
            if len(sizes) == 3 and True not in [worth is True for worth in sizes.values()]:
                self.judge(claim, Sizes(sizes), is_it)
        for value in wrong_sizes(["order", "line", "bill"]):
            self.judge(claim, value, False)
        self.judge(("full", sick(), "a"), zeros(sick(), e=2), False)
        self.judge(("full", sick(), "e"), zeros(sick(), e=2), True)

    def test_empty(self):
        claim = ("empty", sick(), "b")
        paper = empty_paper(sick(), "b")
        self.judge(claim, paper, True)
        self.judge(claim, ([("l", "near")], ("k", "far")), False)
        self.judge(claim, list(paper), False)
        self.judge(("empty", sick(), "a"), paper, False)
        self.judge(("empty", shop(), "order"), ([], ("has", "near")), False)
        self.strange(claim)

    def test_let(self):
        for model in oracle.some_models(60, 102):
            for sizes in oracle.box(model, 2):
                is_let = oracle.is_let(model, sizes)
                claim = ("let", model, sizes)
                totals = self.told(claim, is_let)
                if is_let:
                    self.assertEqual(list(totals), sorted(model.links()))
                    for link, ends in model.links().items():
                        sums = {sum(at_near) for at_near, _ in oracle.let_degrees(sizes, ends)}
                        self.assertIn(totals[link], sums)
                        for number in range(6):
                            self.judge(claim, {**totals, link: number}, number in sums)
                        self.judge(claim, {one: totals[one] for one in totals if one != link}, False)
                        for number in (True, False, None, -1, "1", (1,)):
                            self.judge(claim, {**totals, link: number}, False)
                else:
                    self.judge(claim, {link: 0 for link in model.links()}, False)
        claim = ("let", shop(), {"order": 2 * SIXTY, "line": 9 * SIXTY, "bill": SIXTY})
        self.judge(claim, {"has": 9 * SIXTY, "paid": 2 * SIXTY}, True)
        self.judge(claim, {"paid": 2 * SIXTY, "has": 9 * SIXTY}, True)
        for value in ({"has": 9 * SIXTY + 1, "paid": 2 * SIXTY}, {"has": 9 * SIXTY, "paid": 2 * SIXTY, "x": 1},
                      {"has": 9 * SIXTY, "paid": 2 * SIXTY, 5: 1}, {"has": 9 * SIXTY, 5: 2 * SIXTY},
                      [9 * SIXTY, 2 * SIXTY], Sizes({"has": 9 * SIXTY, "paid": 2 * SIXTY}), ["has", "paid"]):
            self.judge(claim, value, False)
        self.strange(claim)
        self.assertEqual(certificate_of(("let", Model(["a"]), {"a": 5})), {})
        self.judge(("let", Model(["a"]), {"a": 5}), {}, True)
        self.judge(("let", Model(["a"]), {"a": 5}), [], False)

    def test_at_least(self):
        for model in [*oracle.some_models(40, 103), *oracle.ring_models(20, 104)]:
            told = zeros(model, **{kind: 1 for kind in model.kinds() if oracle.is_full(model, kind)})
            least = least_sizes(model, told)
            for kind in model.kinds():
                for number in (0, 1, least[kind], least[kind] + 1):
                    paper = self.told(("at least", model, told, kind, number), number <= least[kind])
                    self.assertEqual(paper, raise_paper(model, told, kind, number))
                    self.assertEqual(certificate_of(("at least", model, Sizes(told), kind, number)), paper)
        claim = ("at least", shop(), zeros(shop(), order=1), "line", 2)
        self.judge(claim, [("has", 0, 1), ("paid", 0, 1), ("paid", 1, 2), ("has", 0, 2)], True)
        self.judge(claim, [("has", 0, 1), ("paid", 1, 2), ("has", 0, 2)], False)
        self.strange(claim)

    def test_parted(self):
        found = []
        for model in oracle.some_models(60, 105, kinds=2, links=2):
            for link in model.links():
                for many in (Many(0), Many(1, 2), Many(2, 4), Many(0, 0)):
                    other = model.with_many(link, "far", many)
                    for one, two in ((model, other), (other, model)):
                        value = self.told(("parted", one, two), not are_alike(one, two))
                        found.append(value and value[0])
                        if value is not None:
                            self.parting(one, two, value)
        for side in (None, 0, 1):
            self.assertGreater(found.count(side), 10)

    def parting(self, one, two, value):
        side, link, end, number, sizes = value
        self.assertIs(type(value), tuple)
        model, other = ((one, two), (two, one))[side]
        self.assertTrue(can_have_row(model, sizes, link, end, number))
        self.assertFalse(number in other.many_at(link, end))
        claim = ("parted", one, two)
        self.judge(claim, (side, link, end, number, sizes.counts()), True)
        self.judge(("parted", two, one), (1 - side, link, end, number, sizes), True)
        self.judge(claim, (1 - side, link, end, number, sizes), False)
        self.judge(claim, (side, link, end, number, Sizes({kind: 0 for kind in sizes.kinds()})), False)

    def test_parted_by_hand(self):
        one, other = shop(), shop().with_many("has", "near", Many(1, 4))
        claim = ("parted", one, other)
        least = least_with(one, "has", "near", 5)
        self.assertEqual(certificate_of(claim), (0,) + parting_of(one, other))
        more = {"order": 20, "line": 99, "bill": 8}
        for value, is_it in (((0, "has", "near", 5, least), True), ((0, "has", "near", 6, more), True), ((0, "has", "near", 4, more), False),
                             ((1, "has", "near", 5, more), False), ((0, "has", "near", 7, more), False), ((0, "has", "far", 1, more), False),
                             ((0, "paid", "far", 3, more), False), ((False, "has", "near", 5, least), False),
                             ((2, "has", "near", 5, least), False), ((-1, "has", "near", 5, least), False),
                             ((0, "has", "near", 5, {"order": 1, "line": 5, "bill": 1}), False),
                             ((0, "has", "near", 5, {"order": 20, "line": 19, "bill": 8}), False),
                             ([0, "has", "near", 5, least], False), ((0, "has", "near", 5), False), ((0, "hat", "near", 5, least), False),
                             ((0, "has", "left", 5, least), False), ((0, "has", "near", True, least), False)):
            self.judge(claim, value, is_it)
        right = (0, "has", "near", 5, least)
        for part in strange_values() + own_things():
            for place in range(5):
                if part != right[place]:
                    self.judge(claim, right[:place] + (part,) + right[place + 1:], False)
        for part in wrong_sizes(["order", "line", "bill"]):
            self.judge(claim, right[:4] + (part,), False)
        self.strange(claim)
        self.judge(("parted", other, one), (1, "has", "near", 5, least), True)
        self.assertEqual(certificate_of(("parted", other, one)), (1, "has", "near", 5, least))

    def test_completes_or_lacking(self):
        found = []
        for told in some_tolds(150, 106):
            before = state(told)
            obstacle = obstacle_of(told)
            database = self.told(("completes", told), obstacle is None)
            self.told(("lacking", told), obstacle is not None)
            self.assertEqual(certificate_of(("lacking", told)), obstacle)
            if obstacle is None:
                self.assertEqual(database, completion(told))
            self.assertEqual(state(told), before)
            found.append(obstacle is None)
        self.assertGreater(min(found.count(True), found.count(False)), 20)

    def test_wishes_have_no_bearing(self):
        told = told_with(shop(), {"order": "m"}, wished={"order": SIXTY})
        database = self.told(("completes", told), True)
        self.assertEqual(database.sizes(), {"bill": 1, "line": 2, "order": 2})
        self.assertEqual(told.wished, Sizes(zeros(shop(), order=SIXTY)))
        self.told(("completes", told_with(sick(), {"e": "x"}, wished={"a": 1})), True)
        self.judge(("completes", told), Database.of_sizes(shop(), {"bill": 3, "line": 9, "order": 7}), True)
        self.strange(("completes", told))
        self.strange(("lacking", told))

    def test_too_many(self):
        model = Model(list("abcd"), {"lmn"[at]: ("abcd"[at], Many(5), "abcd"[at + 1], ONE) for at in range(3)})
        told = told_with(model, {"a": "x"})
        error = self.raised(TooMany, certificate_of, ("completes", told))
        self.assertEqual((error.what, error.limit), ("rows", 100))
        self.assertIsNone(certificate_of(("lacking", told)))
        self.assertIs(is_certificate(("completes", told), 5), False)
        self.assertTrue(certificate_of(("full", model, "d"))["d"] >= 125)
        told -= ("a", "x")
        self.told(("completes", told), True)

    def test_obstacles(self):
        told = told_with(shop(), {"order": "mn", "line": "x"}, {"has": "mx nx"})
        claim = ("lacking", told)
        self.judge(claim, ("past", "has", "far", "x"), True)
        self.judge(claim, ("past", "has", "near", "m"), False)
        self.judge(claim, ["past", "has", "far", "x"], False)

    def test_what_is_returned_can_be_changed(self):
        claim = ("let", shop(), SIZES)
        certificate_of(claim).clear()
        self.judge(claim, certificate_of(claim), True)
        claim = ("at least", shop(), zeros(shop(), order=1), "line", 2)
        certificate_of(claim).clear()
        self.judge(claim, certificate_of(claim), True)


if __name__ == "__main__":
    unittest.main()
