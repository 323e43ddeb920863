"""What integers, counts, names and ends are."""

import unittest

from howmanyeach.errors import InvalidEnd
from howmanyeach.manys import Many
from howmanyeach.ratios import Ratio, Span
from howmanyeach.values import is_count, is_end, is_integer, is_name, number_in, other_end
from tests.helpers import SIXTY, Checks


class EqualToAll:
    """Says that it is equal to each value, and is none of them."""

    def __eq__(self, other):
        return True


OBJECTS = [Many(1, 6), Many(0), Ratio(0), Ratio(3, 2), Span(Ratio(1), True, None), Many, is_name, object(),
           EqualToAll(), InvalidEnd("near")]
OTHERS = [None, True, False, b"", b"a", b"near", b"7", [], [1], ["near"], ["a", ["b"]], (), (1,), ("near",), ("a",),
          {}, {"near": "far"}, {"a": 1}, {"a"}, frozenset(), *OBJECTS]
NUMBERS = [0, 1, 2, 6, 10 ** 19, SIXTY, 10 ** 64]
BELOW = [-1, -2, -SIXTY]
STRANGE_TEXTS = ["", " ", "A", "Z", "aB", "Near", "NEAR", "FAR", "near ", " far", "near\n", "far\n", "a\n", "\na",
                 "a b", "a1", "1", "0", "7", "a-b", "a_b", "_", "a.", "{", "`", "@", "[", "abcdefghi", "abcdefgH",
                 "abcdefg7", "near far", "a" * 9, "a" * 10000]


class Tells(unittest.TestCase):
    def check(self, tell, right, wrong):
        for value in right:
            self.assertIs(tell(value), True, value)
            self.assertIs(tell(value=value), True, value)
        for value in wrong:
            self.assertIs(tell(value), False, value)
            self.assertIs(tell(value=value), False, value)

    def test_integers(self):
        self.check(is_integer, NUMBERS + BELOW, OTHERS + STRANGE_TEXTS + ["near"])

    def test_counts(self):
        self.check(is_count, NUMBERS, BELOW + OTHERS + STRANGE_TEXTS + ["near"])

    def test_names(self):
        names = ["a", "z", "m", "az", "near", "far", "order", "abcdefg", "abcdefgh", "zzzzzzzz"]
        self.check(is_name, names, NUMBERS + BELOW + OTHERS + STRANGE_TEXTS)

    def test_each_sign_of_a_name(self):
        for sign in [chr(number) for number in range(32, 127)] + ["\n"]:
            is_letter = sign in "abcdefghijklmnopqrstuvwxyz"
            for text in (sign, sign + "b", "a" + sign, "a" + sign + "b", "abcdefg" + sign):
                self.assertIs(is_name(text), is_letter, text)

    def test_ends(self):
        wrong = ["a", "nea", "nearfar", "n", "ar", "other", "far far"]
        self.check(is_end, ["near", "far"], wrong + NUMBERS + BELOW + OTHERS + STRANGE_TEXTS)

    def test_what_is_passed_stays(self):
        for tell in (is_integer, is_count, is_name, is_end):
            rows, table = ["near", [1]], {"near": [2], "a": None}
            tell(rows)
            tell(table)
            self.assertEqual([rows, table], [["near", [1]], {"near": [2], "a": None}])
            self.assertEqual(list(table), ["near", "a"])


class OtherEnd(Checks, unittest.TestCase):
    def test_both(self):
        self.assertEqual([other_end("near"), other_end("far")], ["far", "near"])
        self.assertEqual([other_end(end="near"), other_end(end="far")], ["far", "near"])

    def test_every_other_value(self):
        for value in OTHERS + NUMBERS + BELOW + STRANGE_TEXTS + ["a", "other"]:
            self.refused(InvalidEnd, value, other_end, value)
            self.refused(InvalidEnd, value, other_end, end=value)


class NumberIn(unittest.TestCase):
    def test_texts_of_counts(self):
        for number in NUMBERS + [9, 10, 100, 101]:
            self.assertEqual(number_in(str(number)), number)

    def test_no_texts_of_counts(self):
        for text in ["", "00", "01", "007", "-1", "+1", " 1", "1 ", "1\n", "1_0", "1.0", "a", "0x1", "*", "1/1"]:
            self.assertIsNone(number_in(text), text)


if __name__ == "__main__":
    unittest.main()
