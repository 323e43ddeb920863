"""Trials: a Draft that is changed, and then as it was."""

import unittest

from howmanyeach.drafts import Draft
from howmanyeach.errors import InvalidLink, InvalidName, Taken, UnknownKind, UnknownLink
from howmanyeach.manys import Many
from howmanyeach.models import Model
from tests.helpers import Checks, shop

ONE = Many.just(1)
ENDS = ("a", Many(1, 6), "b", Many(0))




class Tried(Checks, unittest.TestCase):
    def setUp(self):
        self.draft = Draft(shop())

    def tearDown(self):
        self.assertEqual(self.draft.made(), shop())
        self.assertEqual(len(self.draft), 2)

    def test_changes_are_taken_back(self):
        with self.draft.trying() as given:
            self.assertIs(given, self.draft)
            self.draft.drop("paid")
            self.draft -= "bill"
            self.draft += "x"
            self.draft["has"] = ("x", ONE, "y", ONE)
            given["m"] = ("x", ONE, "y", ONE)
            wanted = Model(["order", "line", "x", "y"], {"has": ("x", ONE, "y", ONE), "m": ("x", ONE, "y", ONE)})
            self.assertEqual(self.draft.made(), wanted)
        self.assertEqual(self.draft["has"], ("order", Many(1, 6), "line", ONE))
        self.assertFalse("x" in self.draft)
        self.assertTrue("bill" in self.draft)

    def test_each_change_alone(self):
        with self.draft.trying():
            self.draft += "x"
        self.assertFalse("x" in self.draft)
        with self.draft.trying():
            self.draft["has"] = ENDS
        self.assertFalse("a" in self.draft)
        with self.draft.trying():
            self.draft.drop("has")
        self.assertEqual(len(self.draft), 2)
        with self.draft.trying():
            self.draft.drop("has")
            self.draft -= "line"
        self.assertTrue("line" in self.draft)

    def test_trials_within_trials(self):
        with self.draft.trying():
            self.draft.drop("has")
            first = self.draft.made()
            with self.draft.trying() as given:
                self.assertIs(given, self.draft)
                given.drop("paid")
                given += "x"
                second = self.draft.made()
                with given.trying():
                    given -= "order"
                    self.assertFalse("order" in self.draft)
                self.assertEqual(self.draft.made(), second)
            self.assertEqual(self.draft.made(), first)
            self.draft += "y"
            with self.draft.trying():
                self.draft -= "y"
            self.assertTrue("y" in self.draft)

    def test_one_behind_another(self):
        trial = self.draft.trying()
        for kind in ("x", "y"):
            with trial:
                self.draft += kind
        with self.draft.trying():
            self.draft += "z"
            with trial:
                self.draft.drop("has")
            self.assertTrue("z" in self.draft)

    def test_it_begins_with_the_statement(self):
        draft = Draft(shop())
        trial = draft.trying()
        draft += "x"
        with trial:
            draft -= "x"
        self.assertTrue("x" in draft)

    def test_an_error_ends_one(self):
        for error in (ZeroDivisionError, KeyError, KeyboardInterrupt, InvalidLink("l")):
            with self.assertRaises(error if isinstance(error, type) else InvalidLink) as caught:
                with self.draft.trying():
                    self.draft.drop("has")
                    raise error
            if not isinstance(error, type):
                self.assertIs(caught.exception, error)
            self.assertEqual(self.draft.made(), shop())

    def test_an_error_of_the_draft_ends_one(self):
        with self.assertRaises(Taken) as caught:
            with self.draft.trying():
                self.draft["l"] = ENDS
                self.draft += "a"
        self.assertEqual(caught.exception.value, "a")

    def test_an_error_behind_an_inner_trial(self):
        with self.draft.trying():
            self.draft += "x"
            try:
                with self.draft.trying():
                    self.draft += "y"
                    self.draft.drop("nothing")
            except UnknownLink as error:
                self.assertEqual(error.value, "nothing")
            self.assertTrue("x" in self.draft)
            self.assertFalse("y" in self.draft)
            self.draft += "z"

    def test_an_error_within_a_loop_or_a_function(self):
        def leave():
            with self.draft.trying():
                self.draft.drop("has")
                return len(self.draft)
        self.assertEqual(leave(), 1)
        for _ in range(3):
            with self.draft.trying():
                self.draft.drop("has")
                break

    def test_models_and_copies_stay(self):
        with self.draft.trying():
            self.draft.drop("has")
            model, twin = self.draft.made(), self.draft.copy()
            self.draft -= "line"
        wanted = shop().without("has")
        self.assertEqual([model, twin.made()], [wanted, wanted])
        twin += "x"
        self.assertTrue("x" in twin)

    def test_a_copy_is_not_set_back(self):
        twin = self.draft.copy()
        with self.draft.trying():
            twin.drop("has")
            with twin.trying():
                self.draft.drop("paid")
                twin.drop("paid")
        self.assertEqual(twin.made(), shop().without("has"))


class TriedBy(Checks, unittest.TestCase):
    def setUp(self):
        self.draft = Draft(shop())

    def tearDown(self):
        self.assertEqual(self.draft.made(), shop())

    def test_what_is_returned(self):
        for worth in (None, 5, [1], "x", ("a", {})):
            self.assertIs(self.draft.tried_by(lambda draft: worth), worth)
        self.assertIs(self.draft.tried_by(lambda draft: draft), self.draft)
        self.assertIs(self.draft.tried_by(deed=lambda draft: draft), self.draft)

    def test_changes_are_taken_back(self):
        def deed(draft):
            draft += "x"
            draft["has"] = ("x", ONE, "order", Many(2))
            draft.drop("paid")
            draft -= "bill"
            draft -= "line"
            return draft.made()
        wanted = Model(["order", "x"], {"has": ("x", ONE, "order", Many(2))})
        self.assertEqual(self.draft.tried_by(deed), wanted)
        self.assertEqual(self.draft.made(), shop())
        self.assertEqual(self.draft.tried_by(deed=deed), wanted)

    def test_within_each_other(self):
        def inner(draft):
            draft.drop("paid")
            return len(draft)

        def outer(draft):
            draft["l"] = ENDS
            return [draft.tried_by(inner), len(draft), "paid" in draft.made().links()]
        self.assertEqual(self.draft.tried_by(outer), [2, 3, True])

    def test_errors_go_on(self):
        def wrong(draft):
            draft.drop("has")
            draft -= "x"
        self.refused(UnknownKind, "x", self.draft.tried_by, wrong)
        self.assertEqual(self.draft.made(), shop())
        self.refused(InvalidName, 5, self.draft.tried_by, lambda draft: draft.__setitem__(5, ENDS))
        self.assertRaises(ZeroDivisionError, self.draft.tried_by, lambda draft: 1 // (len(draft) - 2))

    def test_errors_caught_within(self):
        def deed(draft):
            draft.drop("has")
            try:
                draft.tried_by(lambda given: given.drop("has"))
            except UnknownLink:
                draft += "x"
            return sorted(draft.made().kinds())
        self.assertEqual(self.draft.tried_by(deed), ["bill", "line", "order", "x"])


if __name__ == "__main__":
    unittest.main()
