"""The desk: its commands and answers, and what they refuse."""

import unittest

from howmanyeach.desk import Desk
from howmanyeach.errors import (CommandFailed, Empty, InvalidCommand, InvalidPairs, InvalidRow, InvalidText,
                                NothingToUndo, Taken, TooMany, UnknownKind, UnknownLink, UnknownThing)
from howmanyeach.manys import Many
from howmanyeach.models import Model
from howmanyeach.sizes import Sizes
from howmanyeach.texts import model_text
from howmanyeach.told import Told
from tests.helpers import SIXTY, Checks, own_things, shop, strange_values
from tests.test_rings import around, is_paper, sick
from tests.test_told import state

ONE = Many.just(1)


def told_text(model):
    """The text of a model as a command has it."""
    return model_text(model)[:-1].replace("\n", " | ")


def filled():
    """A desk with three models and two Tolds."""
    desk = Desk()
    desk.do_all(f"model shop {told_text(shop())}", f"model sick {told_text(sick())}", "model m kind a | kind b | link l a 1 b 5..6",
                "told t shop", "told u m", "row t order x", "row t line y", "pair t has x y", "row u a k")
    return desk


def whole(desk):
    """All that can be asked of a desk."""
    things = []
    for name in desk.names():
        try:
            things.append(desk.model_named(name))
        except UnknownThing:
            things.append(state(desk.told_named(name)))
    return (desk.names(), things, desk.log(), len(desk))


class Commands(Checks, unittest.TestCase):
    def test_the_document(self):
        desk = Desk()
        self.assertEqual(desk.do("model m kind a | kind b | link l a 1 b 5..6"), "done")
        self.assertEqual([desk.do("least m a=7"), desk.do("ratio m a b"), desk.do(command="sizes m a 19")],
                         ["a=10 b=2", "1/6 1/5", "no"])
        self.assertEqual(desk.do_all("told t m", "row t a x", "lacks t"), ["done", "done", "a=4 b=1"])

    def test_models(self):
        desk = Desk()
        for name, model in (("shop", shop()), ("sick", sick()), ("a", Model(["a"])), ("ring", around(2, 3, 3, 5, 5, 2))):
            self.assertEqual(desk.do(f"model {name} {told_text(model)}"), "done")
            self.assertEqual(desk.model_named(name), model)
            self.assertEqual(desk.model_named(name=name), model)
        self.assertEqual(desk.names(), ["a", "ring", "shop", "sick"])

    def test_tolds(self):
        desk = filled()
        told = desk.told_named("t")
        self.assertIs(type(told), Told)
        self.assertEqual([told.model, told.rows("order"), told.rows("line"), told["has"], len(told), told.wished],
                         [shop(), ["x"], ["y"], [("x", "y")], 2, Sizes({"bill": 0, "line": 0, "order": 0})])
        self.assertEqual(desk.do_all("row t order a", "row t line c", "pair t has a c", "row t bill x", "pair t paid x x"),
                         ["done"] * 5)
        told = desk.told_named(name="t")
        self.assertEqual([told.rows("order"), told["has"], told["paid"]], [["x", "a"], [("a", "c"), ("x", "y")], [("x", "x")]])

    def test_what_is_told_is_a_copy(self):
        desk = filled()
        before = whole(desk)
        told = desk.told_named("t")
        told += ("order", "new")
        told["has"] = []
        self.assertEqual(whole(desk), before)
        desk.do("row t order new")
        self.assertEqual(told.rows("order"), ["x", "new"])
        self.assertIsNot(desk.told_named("t"), desk.told_named("t"))

    def test_drop(self):
        desk = filled()
        self.assertEqual(desk.do("drop shop"), "done")
        self.assertEqual(desk.names(), ["m", "sick", "t", "u"])
        self.assertEqual(desk.told_named("t").model, shop())
        self.assertEqual(desk.do("lacks t"), "bill=1 line=1 order=1")
        self.assertEqual(desk.do_all("drop t", "model t kind x", "told shop t", "row shop x y"), ["done"] * 4)
        self.assertEqual(desk.model_named("t"), Model(["x"]))
        self.assertEqual(desk.told_named("shop").rows("x"), ["y"])

    def test_empty(self):
        desk = filled()
        self.assertEqual([desk.do("empty sick"), desk.do("empty shop"), desk.do("empty m")], ["a b c d", "-", "-"])
        desk.do("model one kind zz | link l zz 3 zz 2")
        self.assertEqual(desk.do("empty one"), "zz")

    def test_ratio(self):
        desk = filled()
        desk.do("model o kind a | kind b | kind c | link l a 1..* b 0..*")
        for command, answer in (("ratio shop order line", "1 6"), ("ratio shop order bill", "1/3 1/2"),
                                ("ratio shop line line", "1 1"), ("ratio o a b", ">0 *"), ("ratio o b a", "0 *"),
                                ("ratio o a c", "0 *"), ("ratio sick e a", "0 0"), ("ratio m b a", "5 6")):
            self.assertEqual(desk.do(command), answer)

    def test_least(self):
        desk = filled()
        for command, answer in (("least shop order=10", "bill=4 line=10 order=10"), ("least shop order=0", "bill=0 line=0 order=0"),
                                ("least shop order=1 line=8", "bill=1 line=8 order=2"), ("least sick e=1", "a=0 b=0 c=0 d=0 e=2"),
                                ("least shop line=8 bill=0 order=1", "bill=1 line=8 order=2"),
                                (f"least m b={SIXTY}", f"a={5 * SIXTY} b={SIXTY}")):
            self.assertEqual(desk.do(command), answer)

    def test_alike(self):
        desk = filled()
        desk.do_all("model n kind a | kind b | link l a 1 b 5..6", "model o kind a | kind b | link l a 1 b 5",
                    "model p kind a | kind b | link l b 5..6 a 1", "model q kind a | kind b | link l a 1..2 b 5..6")
        for command, answer in (("alike m n", "yes"), ("alike m m", "yes"), ("alike m o", "no"), ("alike o m", "no"),
                                ("alike m p", "other"), ("alike shop m", "other"), ("alike m q", "no")):
            self.assertEqual(desk.do(command), answer)

    def test_sizes(self):
        desk = filled()
        for command, answer in (("sizes m a 19", "no"), ("sizes m a 20", "yes"), ("sizes m a 0", "yes"),
                                (f"sizes m a {SIXTY}", "yes"), ("sizes shop order 1", "no"), ("sizes shop bill 1", "yes")):
            self.assertEqual(desk.do(command), answer)

    def test_lacks(self):
        desk = filled()
        self.assertEqual([desk.do("lacks t"), desk.do("lacks u")], ["bill=1 line=1 order=1", "a=4 b=1"])
        desk.do_all("told v m", "row t order z", "pair t has z y")
        self.assertEqual([desk.do("lacks v"), desk.do("lacks t")], ["-", "none"])
        desk.do_all("told w sick", "row w e x")
        self.assertEqual(desk.do("lacks w"), "e=1")
        desk.do("row w a x")
        self.assertEqual(desk.do("lacks w"), "none")

    def test_questions_change_nothing(self):
        desk = filled()
        before = whole(desk)
        commands = ["empty sick", "ratio shop order line", "least shop order=10", "alike shop sick", "sizes m a 19", "lacks t"]
        answers = [desk.do(command) for command in commands]
        self.assertEqual([desk.do(command) for command in commands], answers)
        self.assertEqual(desk.do_all(*commands), answers)
        self.assertEqual(whole(desk), before)
        desk.undo()
        self.assertEqual(desk.log(), before[2][:-1])

    def test_names_log_len_in(self):
        desk = Desk()
        self.assertEqual([desk.names(), desk.log(), len(desk), desk.do_all()], [[], [], 0, []])
        desk = filled()
        self.assertEqual([desk.names(), len(desk)], [["m", "shop", "sick", "t", "u"], 5])
        self.assertEqual(desk.log()[2:5], ["model m kind a | kind b | link l a 1 b 5..6", "told t shop", "told u m"])
        for name in ("m", "shop", "t"):
            self.assertIs(name in desk, True)
        for value in strange_values() + own_things() + ["x", "T", "order", ["m"], ("m",)]:
            self.assertIs(value in desk, False)
        desk.names().clear()
        desk.log().clear()
        self.assertEqual([len(desk.names()), len(desk.log())], [5, 9])

    def test_two_desks_share_nothing(self):
        one, two = filled(), filled()
        before = whole(two)
        one.do_all("drop shop", "row t order new", "undo", "model new kind a")
        self.assertEqual(whole(two), before)
        two.undo()
        self.assertEqual(one.do("lacks u"), "a=4 b=1")
        self.assertEqual(two.do("lacks u"), "-")

    def test_the_named_things(self):
        desk = filled()
        for value in strange_values() + own_things() + ["t", "u", "x"]:
            self.refused(UnknownThing, value, desk.model_named, value)
            self.refused(UnknownThing, value, desk.model_named, name=value)
        for value in strange_values() + own_things() + ["m", "shop", "x"]:
            self.refused(UnknownThing, value, desk.told_named, value)
            self.refused(UnknownThing, value, desk.told_named, name=value)


class Undo(Checks, unittest.TestCase):
    def test_each_command(self):
        desk = Desk()
        stages = [whole(desk)]
        commands = [f"model s {told_text(shop())}", "told t s", "row t order x", "row t line y", "pair t has x y",
                    "model u kind a", "drop s", "drop t", "model t kind b", "drop t"]
        for command in commands:
            self.assertEqual(desk.do(command), "done")
            stages.append(whole(desk))
        for place in range(len(commands), 0, -1):
            self.assertEqual(whole(desk), stages[place])
            self.assertEqual(desk.log(), commands[:place])
            if place % 2:
                self.assertIsNone(desk.undo())
            else:
                self.assertEqual(desk.do("undo"), "done")
        self.assertEqual(whole(desk), stages[0])
        self.raised(NothingToUndo, desk.undo)
        self.raised(NothingToUndo, desk.do, "undo")
        self.assertEqual(whole(desk), stages[0])

    def test_an_undo_is_not_taken_back(self):
        desk = Desk()
        desk.do_all("model a kind a", "model b kind b", "undo", "undo")
        self.assertEqual([desk.names(), desk.log()], [[], []])
        desk.do_all("model a kind a", "model b kind b", "undo", "model c kind c")
        self.assertEqual(desk.log(), ["model a kind a", "model c kind c"])
        desk.undo()
        self.assertEqual(desk.names(), ["a"])
        desk.undo()
        self.assertEqual(desk.names(), [])
        self.raised(NothingToUndo, desk.undo)

    def test_tolds_that_were_given_out_stay(self):
        desk = filled()
        told = desk.told_named("u")
        desk.undo()
        self.assertEqual([told.rows("a"), desk.told_named("u").rows("a")], [["k"], []])


class DoAll(Checks, unittest.TestCase):
    def fails(self, desk, position, error, *commands):
        before = whole(desk)
        caught = self.raised(CommandFailed, desk.do_all, *commands)
        self.assertEqual(caught.position, position)
        self.assertIs(type(caught.__cause__), error)
        self.assertEqual(whole(desk), before)
        return caught.__cause__

    def test_all_or_none(self):
        desk = filled()
        self.assertEqual(self.fails(desk, 2, Taken, "model x kind a", "told y x", "told t x", "undo").value, "t")
        self.assertEqual(self.fails(desk, 0, InvalidCommand, 5, "told y x").value, 5)
        self.assertEqual(self.fails(desk, 1, UnknownThing, "drop m", "drop m").value, "m")
        self.assertEqual(self.fails(desk, 3, UnknownKind, "undo", "undo", "drop t", "ratio m a c").value, "c")
        self.assertEqual(self.fails(desk, 1, InvalidText, "drop m", "model x kind a | link l a 1 b 1").line, 2)
        self.assertEqual(self.fails(desk, 2, InvalidRow, "row t order z", "lacks t", "row t orders z").value, ("orders", "z"))
        error = self.fails(desk, 1, InvalidPairs, "row t order z", "pair t has x y")
        self.assertEqual((error.link, error.position), ("has", 1))
        error = self.fails(desk, 1, Empty, "drop t", "sizes sick b 3")
        self.assertTrue(error.kind == "b" and is_paper(sick(), "b", error.paper))
        self.fails(desk, 9, NothingToUndo, *["undo"] * 12)
        self.fails(desk, 12, TooMany, *[f"row u b {name}" for name in "abcdefghijklm"])
        self.assertEqual(desk.do_all("undo", "row u a z", "undo"), ["done"] * 3)

    def test_models_with_too_many_kinds(self):
        desk = Desk()
        text = " | ".join(f"kind {name}" for name in "abcdef")
        self.assertEqual(self.fails(desk, 0, InvalidText, f"model m {text}").line, 6)


class Refused(Checks, unittest.TestCase):
    def command(self, value):
        desk = filled()
        before = whole(desk)
        self.refused(InvalidCommand, value, desk.do, value)
        self.refused(InvalidCommand, value, desk.do, command=value)
        self.assertEqual(whole(desk), before)

    def test_values_of_other_kinds(self):
        for value in strange_values() + own_things() + [["undo"], ("empty", "m"), b"undo", Desk, filled()]:
            self.command(value)

    def test_words(self):
        for text in ("", " ", "undo ", " undo", "Undo", "undo undo", "redo", "empty", "empty ", "empty m m", "empty  m", "empty m ",
                     " empty m", "empty M", "empty abcdefghi", "empty m\n", "\nempty m", "empty\nm", "empty\tm", "drop", "drop m t",
                     "told", "told x", "told x m m", "told  x m", "told x  m", "told X m", "told x M", "told x m ", "row t order",
                     "row t order x x", "row t order 5", "row t order x\n", "row t  x", "pair t has x", "pair t has x y z",
                     "pair t has x y ", "pair t has  x y", "pair t 5 x y", "lacks", "lacks t t", "alike m", "alike m m m", "alike  m m",
                     "ratio m a", "ratio m a b b", "ratio m a B", "ratio m a  b", "model", "model x", "model x ", "model  kind a",
                     "model X kind a", "model kinds", "model x\nkind a", "model x kind a\n", "model x kind a | kind b\nlink", "modelx kind a"):
            self.command(text)

    def test_numbers(self):
        for number in ("-1", "+1", "01", "00", "1.0", "1_0", "", " 1", "a", "0x1", "1e3", "\u0663", "1 2", "=1"):
            self.command(f"sizes m a {number}")
            self.command(f"least m a={number}")

    def test_counts(self):
        for counts in ("", " ", "a", "a=", "=1", "a=1 ", " a=1", "a=1  b=1", "a=1 a=1", "a=1 b=2 a=3", "a=1,b=2", "a =1", "a= 1",
                       "A=1", "a=1=1", "a:1", "a=1 b", "abcdefghi=1"):
            self.command(f"least m {counts}")
        self.command("least m")
        self.command("least a=1")
        self.command("least  a=1")

    def test_names_in_use(self):
        desk = filled()
        for command, value in (("model m kind a", "m"), ("model t nonsense", "t"), ("told m m", "m"), ("told t x", "t"),
                               ("told shop nothing", "shop")):
            self.refused(Taken, value, desk.do, command)

    def test_unknown_things(self):
        desk = filled()
        for command, value in (("told x x", "x"), ("told x t", "t"), ("row m a x", "m"), ("row x a x", "x"), ("row x order x", "x"),
                               ("pair shop has x y", "shop"), ("pair x has x y", "x"), ("drop x", "x"), ("empty t", "t"),
                               ("empty x", "x"), ("ratio t order line", "t"), ("ratio x a b", "x"), ("least t order=1", "t"),
                               ("least x zz=1", "x"), ("alike x y", "x"), ("alike m y", "y"), ("alike t x", "t"), ("alike m t", "t"),
                               ("sizes u a 5", "u"), ("lacks m", "m"), ("lacks x", "x")):
            self.refused(UnknownThing, value, desk.do, command)

    def test_texts(self):
        desk = filled()
        for text, line in (("nonsense", 1), (" kind a", 1), ("kind a ", 1), ("kind a|kind b", 1), ("kind a | kind a", 2),
                           ("kind b | kind a", 2), ("kind a | link l a 1 b 1", 2), ("kind a | ", 2), (" | kind a", 1),
                           ("kind a | kind b | link l a 1 b 7", 3), ("kind a | link l a 1 a 1 | kind b", 3), (" ", 1), ("|", 1),
                           ("kind a |  | kind b", 2), ("kind a | kind b | ", 3), ("link l a 1 a 1 | kind a", 2)):
            error = self.raised(InvalidText, desk.do, f"model x {text}")
            self.assertEqual(error.line, line, text)
        self.assertNotIn("x", desk)

    def test_errors_of_what_is_used(self):
        desk = filled()
        before = whole(desk)
        for command, value in (("ratio m a c", "c"), ("ratio m c d", "c"), ("least m a=1 zz=2 y=3", "zz"), ("least m y=3 zz=1", "y"),
                               ("sizes m c 5", "c")):
            self.refused(UnknownKind, value, desk.do, command)
        self.refused(InvalidRow, ("has", "x"), desk.do, "row t has x")
        self.refused(Taken, ("order", "x"), desk.do, "row t order x")
        self.refused(UnknownLink, "hat", desk.do, "pair t hat x y")
        for command, link, position in (("pair t has x x", "has", 1), ("pair t has x y", "has", 1), ("pair t paid x y", "paid", 0)):
            error = self.raised(InvalidPairs, desk.do, command)
            self.assertEqual((error.link, error.position), (link, position))
        for command in ("ratio sick a e", "least sick a=1 e=5", "sizes sick a 0"):
            self.empty("a", lambda paper: is_paper(sick(), "a", paper), desk.do, command)
        self.empty("b", lambda paper: is_paper(sick(), "b", paper), desk.do, "least sick d=1 e=1 b=9 a=0")
        self.assertEqual(whole(desk), before)

    def test_limits(self):
        desk = Desk()
        desk.do_all("model m kind a | link l a 0..* a 0..*", "told t m", *[f"row t a {name}" for name in "abcdefghijkl"])
        error = self.raised(TooMany, desk.do, "row t a m")
        self.assertEqual((error.what, error.limit), ("rows", 12))
        pairs = [(near, far) for near in "abcdefghijkl" for far in "abcdefghijkl"]
        desk.do_all(*[f"pair t l {near} {far}" for near, far in pairs[:40]])
        before = whole(desk)
        error = self.raised(TooMany, desk.do, "pair t l l l")
        self.assertEqual((error.what, error.limit), ("pairs", 40))
        error = self.raised(InvalidPairs, desk.do, "pair t l a a")
        self.assertEqual((error.link, error.position), ("l", 40))
        self.assertEqual(whole(desk), before)
        self.assertEqual(desk.told_named("t")["l"], pairs[:40])


class Trials(Checks, unittest.TestCase):
    def setUp(self):
        self.desk = filled()
        self.before = whole(self.desk)

    def tearDown(self):
        self.assertEqual(whole(self.desk), self.before)

    def change(self, desk):
        desk.do_all("drop shop", "row t order z", "model new kind a", "undo", "told new m")
        return whole(desk)

    def test_changes_are_taken_back(self):
        with self.desk.trial() as given:
            self.assertIs(given, self.desk)
            self.change(given)
            self.assertEqual(self.desk.names(), ["m", "new", "sick", "t", "u"])
        self.tearDown()
        self.desk.undo()
        self.assertEqual(self.desk.log(), self.before[2][:-1])
        self.desk.do(self.before[2][-1])

    def test_undo_within_a_trial(self):
        with self.desk.trial():
            for _ in range(9):
                self.desk.undo()
            self.assertEqual([self.desk.names(), self.desk.log()], [[], []])
            self.raised(NothingToUndo, self.desk.undo)
            self.desk.do("model y kind a")

    def test_trials_within_trials(self):
        with self.desk.trial() as desk:
            desk.do("drop m")
            first = whole(desk)
            with desk.trial():
                desk.do("drop t")
                second = whole(desk)
                with self.desk.trial():
                    desk.undo()
                    desk.undo()
                    self.assertEqual(whole(desk), self.before)
                self.assertEqual(whole(desk), second)
            self.assertEqual(whole(desk), first)

    def test_an_error_ends_one(self):
        with self.assertRaises(UnknownThing):
            with self.desk.trial() as desk:
                desk.do("drop m")
                desk.do("drop m")
        self.tearDown()
        with self.assertRaises(KeyboardInterrupt):
            with self.desk.trial() as desk:
                self.change(desk)
                raise KeyboardInterrupt

    def test_errors_caught_behind_an_inner_trial(self):
        with self.desk.trial() as desk:
            desk.do("drop m")
            first = whole(desk)
            try:
                with desk.trial():
                    desk.do_all("drop t", "drop u")
                    desk.do_all("drop shop", "drop m")
            except CommandFailed as error:
                self.assertEqual(error.position, 1)
            self.assertEqual(whole(desk), first)

    def test_tried_by(self):
        wanted = self.change(filled())
        self.assertEqual(self.desk.tried_by(self.change), wanted)
        self.tearDown()
        self.assertEqual(self.desk.tried_by(deed=lambda desk: [desk.tried_by(self.change), whole(desk)]), [wanted, self.before])
        self.assertIs(self.desk.tried_by(lambda desk: desk), self.desk)
        self.refused(UnknownThing, "x", self.desk.tried_by, lambda desk: [self.change(desk), desk.do("drop x")])
        self.assertRaises(ZeroDivisionError, self.desk.tried_by, lambda desk: 1 // 0)


if __name__ == "__main__":
    unittest.main()
