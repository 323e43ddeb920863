"""The texts of models."""

import itertools
import unittest

from howmanyeach.errors import InvalidModel, InvalidText
from howmanyeach.manys import Many
from howmanyeach.models import Model
from howmanyeach.texts import model_text, read_model
from tests.helpers import Checks, own_things, shop, strange_values

ONE = Many.just(1)
SHOP = "kind bill\nkind line\nkind order\nlink has order 1..6 line 1\nlink paid order 1 bill 2..3\n"
FIVE = "kind a\nkind b\nkind c\nkind d\nkind e\n"
EIGHT = "".join(f"link {name} a 1 b 0..*\n" for name in "stuvwxyz")
MANYS = [Many(least, most) for least in range(7) for most in [*range(least, 7), None]]


class Written(Checks, unittest.TestCase):
    def test_by_hand(self):
        self.assertEqual(model_text(shop()), SHOP)
        self.assertEqual(model_text(model=Model(["b", "a"])), "kind a\nkind b\n")
        self.assertEqual(model_text(Model(["kind"], {"link": ("kind", Many(0), "kind", Many(0, 0))})),
                         "kind kind\nlink link kind 0..* kind 0\n")
        self.assertEqual(model_text(shop().turned("has")), SHOP.replace("order 1..6 line 1", "line 1 order 1..6"))

    def test_no_model(self):
        for value in strange_values() + own_things()[:-1] + [SHOP]:
            self.refused(InvalidModel, value, model_text, value)
            self.refused(InvalidModel, value, model_text, model=value)


class Read(unittest.TestCase):
    def test_by_hand(self):
        for model in (read_model(SHOP), read_model(text=SHOP)):
            self.assertIs(type(model), Model)
            self.assertEqual(model, shop())

    def test_each_text_gives_an_equal_model(self):
        for near, far in itertools.product(MANYS, repeat=2):
            model = Model(["a", "b"], {"l": ("a", near, "b", far), "m": ("b", far, "b", near)})
            self.assertEqual(read_model(model_text(model)), model)

    def test_all_numbers_of_kinds_and_links(self):
        for kinds, links in itertools.product(range(1, 6), range(9)):
            names = ["ab", "abcdefgh", "b", "kind", "link"][:kinds]
            model = Model(names, {"lmnopqrs"[at]: (names[at % kinds], Many(at % 7), names[-1], Many(0, at % 7))
                                  for at in range(links)})
            self.assertEqual(read_model(model_text(model)), model)


class Wrong(Checks, unittest.TestCase):
    def line(self, wanted, text):
        for error in (self.raised(InvalidText, read_model, text), self.raised(InvalidText, read_model, text=text)):
            self.assertEqual(error.line, wanted, text)

    def test_no_string(self):
        for value in strange_values() + own_things() + [SHOP.encode(), [SHOP], SHOP.split("\n")]:
            if not isinstance(value, str):
                self.line(None, value)

    def test_empty_ones(self):
        self.line(1, "")
        self.line(1, "\n")
        self.line(1, "\n" + SHOP)
        self.line(6, SHOP + "\n")
        self.line(3, "kind a\nkind b\n\nkind c\n")

    def test_unknown_lines(self):
        for line in ("Kind x", "kind", "kind ", " kind x", "kind x ", "kind  x", "kind x y", "kind X", "kind x1", "x",
                     "kind abcdefghi", "kinds x", "model x", " ", "#", "link", "link x", "link x a 1 b",
                     "link x a 1 b 1 ", "link x  a 1 b 1", "link X a 1 b 1", "link x A 1 b 1", "link x a 1 b! 1",
                     "link x a 1 b 1 c", "link x 1 a b 1", "link x a 1 1 b", "link a 1 b 1", "link x a 01 b 1",
                     "link x a 1..1 b 1", "link x a 2..1 b 1", "link x a 1.. b 1", "link x a ..1 b 1",
                     "link x a * b 1", "link x a 1 b 1...*", "link x a 1 b -1", "link x a 1 b +1", "link x a 1 b 1..06",
                     "link x a 1 b 0..**", "Link x a 1 b 1", "kind x a 1 b 1", "link abcdefghi a 1 b 1"):
            self.line(3, f"kind a\nkind b\n{line}\n")
            self.line(3, f"kind a\nkind b\n{line}")
            self.line(1, f"{line}\nkind a\nkind b\n")
            self.line(3, f"kind a\nkind b\n{line}\nlink l c 1 d 1\n")

    def test_numbers_above_six(self):
        for many in ("7", "0..7", "6..7", "7..*", "10", "10..*", "1..60", "7..8", "9" * 60):
            self.line(3, f"kind a\nkind b\nlink l a {many} b 1\n")
            self.line(3, f"kind a\nkind b\nlink l a 1 b {many}\n")
        self.assertEqual(len(read_model("kind a\nkind b\nlink l a 6 b 6..*\n")), 1)

    def test_names_that_do_not_rise(self):
        self.line(2, "kind b\nkind a\n")
        self.line(2, "kind a\nkind a\n")
        self.line(3, "kind a\nkind c\nkind b\nkind d\n")
        self.line(3, "kind a\nlink m a 1 a 1\nlink l a 1 a 1\n")
        self.line(3, "kind a\nlink m a 1 a 1\nlink m a 1 a 2\n")
        self.line(2, "kind ab\nkind a\n")
        self.assertEqual(len(read_model("kind z\nlink a z 1 z 1\nlink aa z 1 z 1\n")), 2)

    def test_kinds_behind_links(self):
        self.line(3, "kind a\nlink l a 1 a 1\nkind b\n")
        self.line(3, "kind a\nlink l a 1 a 1\nkind a\nlink m b 1 b 1\n")
        self.line(4, "kind a\nlink l a 1 b 1\nlink m b 1 b 1\nkind b\n")
        self.line(2, "link l a 1 a 1\nkind a\n")

    def test_too_many(self):
        self.line(6, FIVE + "kind f\n")
        self.line(6, FIVE + "kind f\nkind g\n" + EIGHT)
        self.line(14, FIVE + EIGHT + "link zz a 1 b 1\n")
        self.line(14, FIVE + EIGHT + "link zz a 1 b 1\nlink zzz a 1 b 1\n")
        self.assertEqual([len(read_model(FIVE + EIGHT)), len(read_model(FIVE + EIGHT).kinds())], [8, 5])

    def test_kinds_of_no_line(self):
        self.line(2, "kind a\nlink l a 1 b 1\n")
        self.line(2, "kind a\nlink l b 1 a 1\n")
        self.line(3, "kind a\nlink l a 1 a 1\nlink m a 1 c 1\n")
        self.line(1, "link l a 1 a 1\n")
        self.line(1, "link l a 1 a 1\nkind A\n")
        self.line(2, "kind a\nlink l a 1 b 1\nkind b c\n")
        self.line(3, "kind a\nlink l a 1 b 1\nkind b\nlink m c 1 c 1\n")
        self.line(3, "kind a\nlink l a 1 b 1\nkind b")

    def test_no_line_feed_at_the_end(self):
        self.line(1, "kind a")
        self.line(2, "kind a\nkind b")
        self.line(5, SHOP[:-1])
        self.line(13, (FIVE + EIGHT)[:-1])
        self.line(2, "kind b\nkind a\nkind c")

    def test_the_first_of_two_wrong_lines(self):
        self.line(2, "kind b\nkind a\nx\n")
        self.line(2, "kind b\nlink l b 1 c 1\nkind a\n")
        self.line(4, SHOP.replace("order 1..6", "order 1..7").replace("2..3", "3..2"))
        self.line(5, SHOP.replace("2..3", "3..2") + "x")
        self.line(1, "x")

    def test_what_was_cut_out_or_doubled(self):
        lines = SHOP.split("\n")[:-1]
        for at in range(5):
            doubled = lines[:at + 1] + lines[at:]
            self.line(at + 2, "".join(line + "\n" for line in doubled))
        self.line(3, "".join(line + "\n" for line in lines[1:]).replace("kind line", "kind bin"))
        self.line(4, "".join(line + "\n" for line in lines[1:]))
        self.line(3, "".join(line + "\n" for line in lines[:2] + lines[3:]))


if __name__ == "__main__":
    unittest.main()
