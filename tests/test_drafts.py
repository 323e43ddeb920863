"""Drafts: models that are being made."""

import unittest

from howmanyeach.drafts import Draft
from howmanyeach.errors import (InvalidKinds, InvalidLink, InvalidModel, InvalidName, Taken, TooMany, UnknownKind,
                                UnknownLink)
from howmanyeach.manys import Many
from howmanyeach.models import Model
from tests.helpers import SIXTY, Checks, own_things, shop, strange_values

ONE = Many.just(1)
ENDS = ("a", Many(1, 6), "b", Many(0))
XY = ("x", ONE, "y", ONE)
NO_NAMES = ["", "A", "l1", "abcdefghi", "a b", 0, 1, True, None, b"l", ["l"], ("l",), {}, {"l": 1}, slice(1, 2)]


def set_link(draft, link, ends):
    draft[link] = ends


def add_kind(draft, kind):
    draft += kind
    return draft


def take_kind(draft, kind):
    draft -= kind
    return draft


def get_link(draft, link):
    return draft[link]


def full():
    """A Draft with five kinds and eight links."""
    draft = Draft(Model(list("abcde")))
    for link in "stuvwxyz":
        draft[link] = ("a", ONE, "b", ONE)
    return draft


class Begun(Checks, unittest.TestCase):
    def test_from_nothing(self):
        for draft in (Draft(), Draft(None), Draft(model=None)):
            self.assertEqual(len(draft), 0)
            self.assertFalse("a" in draft)
            self.assertIsNone(self.raised(InvalidKinds, draft.made).position)

    def test_from_a_model(self):
        model = shop()
        for draft in (Draft(model), Draft(model=model)):
            self.assertEqual(draft.made(), shop())
            self.assertEqual(len(draft), 2)
            self.assertEqual(draft["has"], ("order", Many(1, 6), "line", ONE))
            draft["has"] = ENDS
            draft.drop("paid")
            draft -= "bill"
            self.assertEqual(model, shop())

    def test_no_model(self):
        for value in strange_values() + own_things()[:-1] + [Draft(), Draft(shop())]:
            if value is not None:
                self.refused(InvalidModel, value, Draft, value)
                self.refused(InvalidModel, value, Draft, model=value)


class Links(Checks, unittest.TestCase):
    def test_kinds_are_added(self):
        draft = Draft()
        draft["l"] = ENDS
        self.assertEqual(draft.made(), Model(["a", "b"], {"l": ENDS}))
        draft["m"] = ("c", ONE, "c", Many(2))
        draft["k"] = ("b", Many(6), "d", Many(0, 0))
        wanted = Model(list("abcd"), {"l": ENDS, "m": ("c", ONE, "c", Many(2)), "k": ("b", Many(6), "d", Many(0, 0))})
        self.assertEqual(draft.made(), wanted)
        self.assertEqual([len(draft), draft["l"], draft["m"]], [3, ENDS, ("c", ONE, "c", Many(2))])

    def test_in_the_place_of_an_earlier_one(self):
        draft = Draft(Model(["a", "b"], {"l": ENDS}))
        draft["l"] = ("c", ONE, "b", ONE)
        self.assertEqual(draft.made(), Model(["a", "b", "c"], {"l": ("c", ONE, "b", ONE)}))
        self.assertEqual([len(draft), draft["l"]], [1, ("c", ONE, "b", ONE)])

    def test_names_ahead_of_ends(self):
        draft = Draft(shop())
        for link in NO_NAMES:
            self.refused(InvalidName, link, set_link, draft, link, ENDS)
            self.refused(InvalidName, link, set_link, draft, link, None)
        self.assertEqual(draft.made(), shop())

    def test_wrong_ends(self):
        draft = Draft(shop())
        wrong = strange_values() + own_things() + [list(ENDS), ENDS[:3], ENDS + ("a",), (ENDS,), "abcd"]
        for place, parts in ((0, NO_NAMES), (2, NO_NAMES), (1, [1, None, "1", Many(7), Many(0, 7), Many(SIXTY)]),
                             (3, [0, True, "a", Many(7, 7), Many(6, SIXTY), [ONE]])):
            wrong.extend([ENDS[:place] + (part,) + ENDS[place + 1:] for part in parts])
        for ends in wrong:
            self.refused(InvalidLink, ends, set_link, draft, "l", ends)
            self.refused(InvalidLink, ends, set_link, draft, "has", ends)
        self.assertEqual(draft.made(), shop())

    def test_get(self):
        for draft in (Draft(shop()), Draft()):
            for value in NO_NAMES + strange_values() + own_things() + ["order", "l"]:
                self.refused(UnknownLink, value, get_link, draft, value)


class Limits(Checks, unittest.TestCase):
    def limit(self, what, most, call, draft, *values):
        before = draft.made()
        error = self.raised(TooMany, call, draft, *values)
        self.assertEqual([error.what, error.limit], [what, most])
        self.assertEqual(draft.made(), before)

    def test_kinds(self):
        draft = Draft(Model(list("abcd")))
        self.limit("kinds", 5, set_link, draft, "l", ("e", ONE, "f", ONE))
        draft["l"] = ("e", ONE, "e", ONE)
        self.limit("kinds", 5, set_link, draft, "l", ("e", ONE, "f", ONE))
        self.limit("kinds", 5, set_link, draft, "m", ("f", ONE, "f", ONE))
        self.limit("kinds", 5, add_kind, draft, "f")

    def test_links(self):
        draft = full()
        self.limit("links", 8, set_link, draft, "l", ("a", ONE, "b", ONE))
        self.limit("kinds", 5, set_link, draft, "l", ("a", ONE, "f", ONE))
        self.limit("kinds", 5, set_link, draft, "s", ("a", ONE, "f", ONE))
        draft["s"] = ("c", ONE, "d", ONE)
        self.assertEqual([len(draft), draft["s"][0]], [8, "c"])

    def test_other_errors_come_first(self):
        self.refused(InvalidName, "L", set_link, full(), "L", ("a", ONE, "f", ONE))
        self.refused(InvalidLink, ("a", ONE, "f", 1), set_link, full(), "l", ("a", ONE, "f", 1))
        self.refused(InvalidName, "F", add_kind, full(), "F")
        self.refused(Taken, "e", add_kind, full(), "e")


class Kinds(Checks, unittest.TestCase):
    def test_added(self):
        draft = first = Draft()
        for many, kind in enumerate(["b", "a", "kind", "abcdefgh", "l"], 1):
            draft += kind
            self.assertIs(draft, first)
            self.assertTrue(kind in draft)
            self.assertEqual(len(draft.made().kinds()), many)
        self.assertEqual(draft.made(), Model(["a", "b", "l", "kind", "abcdefgh"]))
        self.assertEqual(len(draft), 0)

    def test_not_added(self):
        draft = Draft(shop())
        for value in NO_NAMES + own_things():
            self.refused(InvalidName, value, add_kind, draft, value)
        for value in ("order", "line", "bill"):
            self.refused(Taken, value, add_kind, draft, value)
        self.assertEqual(draft.made(), shop())
        self.assertEqual(add_kind(draft, "has").made().kinds(), ["bill", "has", "line", "order"])

    def test_taken_away(self):
        draft = first = Draft(Model(["a", "b", "c"], {"l": ENDS}))
        draft -= "c"
        self.assertIs(draft, first)
        self.assertEqual(draft.made(), Model(["a", "b"], {"l": ENDS}))
        draft.drop("l")
        draft -= "a"
        self.assertEqual(draft.made(), Model(["b"]))
        draft -= "b"
        self.assertIsNone(self.raised(InvalidKinds, draft.made).position)

    def test_not_taken_away(self):
        draft = Draft(shop())
        draft += "x"
        draft["a"] = ("x", ONE, "line", ONE)
        before = draft.made()
        for value in NO_NAMES + strange_values() + own_things() + ["has", "a"]:
            self.refused(UnknownKind, value, take_kind, draft, value)
        for kind, link in (("x", "a"), ("line", "a"), ("order", "has"), ("bill", "paid")):
            self.refused(Taken, link, take_kind, draft, kind)
        draft["aa"] = ("line", ONE, "x", ONE)
        draft.drop("a")
        self.refused(Taken, "aa", take_kind, draft, "x")
        draft["a"] = ("x", ONE, "line", ONE)
        draft.drop("aa")
        self.assertEqual(draft.made(), before)

    def test_contains(self):
        draft = Draft(shop())
        for kind in ("order", "line", "bill"):
            self.assertIs(kind in draft, True)
        for value in NO_NAMES + strange_values() + own_things() + ["has", "paid"]:
            self.assertIs(value in draft, False)


class Dropped(Checks, unittest.TestCase):
    def test_drop(self):
        draft = Draft(shop())
        self.assertIsNone(draft.drop("has"))
        self.assertIsNone(draft.drop(link="paid"))
        self.assertEqual(draft.made(), Model(["order", "line", "bill"]))
        self.refused(UnknownLink, "has", draft.drop, "has")

    def test_unknown(self):
        draft = Draft(shop())
        for value in NO_NAMES + strange_values() + own_things() + ["order", "l"]:
            self.refused(UnknownLink, value, draft.drop, value)
            self.refused(UnknownLink, value, draft.drop, link=value)
        self.assertEqual(draft.made(), shop())


class Copies(unittest.TestCase):
    def change(self, draft):
        draft += "x"
        draft["has"] = XY
        draft.drop("paid")
        draft -= "bill"

    def test_both_go_their_own_ways(self):
        draft = Draft(shop())
        twin = draft.copy()
        self.assertIs(type(twin), Draft)
        self.assertIsNot(twin, draft)
        self.change(draft)
        self.assertEqual(twin.made(), shop())
        other = draft.copy()
        self.change(twin)
        self.assertEqual([other.made(), draft.made()], [twin.made(), twin.made()])
        other.drop("has")
        self.assertEqual(draft.made(), twin.made())
        self.assertEqual(len(other), 0)

    def test_made_models_stay(self):
        draft = Draft(shop())
        model = draft.made()
        self.change(draft)
        self.assertEqual(model, shop())
        model.links().clear()
        self.assertEqual(draft["has"], XY)

    def test_not_compared_and_not_iterated(self):
        draft = Draft(shop())
        self.assertFalse(draft == draft.copy())
        self.assertTrue(draft == draft)
        for draft in (draft, Draft(), full()):
            self.assertRaises(TypeError, list, draft)
            self.assertRaises(TypeError, iter, draft)
            with self.assertRaises(TypeError):
                for _ in draft:
                    self.fail("a Draft gives no elements")


if __name__ == "__main__":
    unittest.main()
