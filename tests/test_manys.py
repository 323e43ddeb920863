"""Manys: how they are made, read, told and compared."""

import itertools
import operator
import unittest

from howmanyeach.errors import InvalidCount, InvalidMany, InvalidText
from howmanyeach.manys import Many
from howmanyeach.ratios import Ratio
from tests.helpers import SIXTY, SIXTY_MORE, Checks, some_manys, strange_values


class Made(Checks, unittest.TestCase):
    def test_parts(self):
        for least, most in [(0, 0), (0, 1), (1, 1), (1, 6), (2, 6), (6, 6), (7, 8), (0, None), (3, None),
                            (SIXTY, SIXTY), (SIXTY, SIXTY_MORE), (0, SIXTY), (SIXTY, None)]:
            for many in (Many(least, most), Many(least=least, most=most), Many(most=most, least=least)):
                self.assertIs(type(many), Many)
                self.assertEqual([many.least, many.most], [least, most])

    def test_without_a_most_number(self):
        for many in (Many(2), Many(least=2), Many(2, None)):
            self.assertEqual(many.least, 2)
            self.assertIsNone(many.most)

    def test_no_count(self):
        for value in strange_values() + [Many(1), Ratio(1)]:
            self.refused(InvalidCount, value, Many, value)
            self.refused(InvalidCount, value, Many, value, 3)
            self.refused(InvalidCount, value, Many, least=value)
            if value is not None:
                self.refused(InvalidCount, value, Many, 0, value)
                self.refused(InvalidCount, value, Many, least=0, most=value)

    def test_the_first_wrong_one_decides(self):
        self.refused(InvalidCount, True, Many, True, -1)
        self.refused(InvalidCount, -1, Many, -1, True)
        self.refused(InvalidCount, "a", Many, most="b", least="a")
        self.refused(InvalidCount, None, Many, None, -2)
        self.refused(InvalidCount, -3, Many, 5, -3)

    def test_most_below_least(self):
        for least, most in [(1, 0), (2, 1), (6, 0), (SIXTY + 1, SIXTY), (SIXTY_MORE, SIXTY)]:
            self.refused(InvalidMany, (least, most), Many, least, most)
            self.refused(InvalidMany, (least, most), Many, least=least, most=most)

    def test_just(self):
        for number in (0, 1, 6, 7, SIXTY):
            for many in (Many.just(number), Many.just(number=number)):
                self.assertEqual([many.least, many.most], [number, number])
        for value in strange_values() + [Many(1, 1), Ratio(2)]:
            self.refused(InvalidCount, value, Many.just, value)
            self.refused(InvalidCount, value, Many.just, number=value)

    def test_top(self):
        self.assertIs(type(Many.TOP), int)
        self.assertEqual([Many.TOP, Many(0).TOP], [6, 6])


class Told(unittest.TestCase):
    def test_texts(self):
        rows = [(Many(2, 6), "2..6"), (Many(2), "2..*"), (Many(2, 2), "2"), (Many(0), "0..*"), (Many(0, 0), "0"),
                (Many(0, 1), "0..1"), (Many(10, 12), "10..12"), (Many(SIXTY, SIXTY), str(SIXTY)),
                (Many(SIXTY), f"{SIXTY}..*"), (Many(SIXTY, SIXTY_MORE), f"{SIXTY}..{SIXTY_MORE}")]
        for many, text in rows:
            self.assertEqual(str(many), text)

    def test_repr(self):
        rows = [(Many(1, 6), "Many(1, 6)"), (Many(1), "Many(1)"), (Many(2, 2), "Many(2, 2)"), (Many(0), "Many(0)"),
                (Many.just(0), "Many(0, 0)"), (Many(1, SIXTY), f"Many(1, {SIXTY})"), (Many(SIXTY), f"Many({SIXTY})")]
        for many, text in rows:
            self.assertEqual(repr(many), text)

    def test_bool(self):
        for many in (Many(0), Many(1), Many(0, 1), Many(1, 1), Many(0, SIXTY), Many(2, 6)):
            self.assertIs(bool(many), True)
        self.assertIs(bool(Many(0, 0)), False)

    def test_parts_do_not_change(self):
        many = Many(1, 6)
        for name in ("least", "most"):
            self.assertRaises(AttributeError, setattr, many, name, 2)
        self.assertEqual([many.least, many.most], [1, 6])


class Equal(unittest.TestCase):
    def test_equal_parts(self):
        for one, other in itertools.product(some_manys(), repeat=2):
            is_equal = (one.least, one.most) == (other.least, other.most)
            self.assertIs(one == other, is_equal)
            self.assertIs(one != other, not is_equal)

    def test_long_numbers(self):
        self.assertTrue(Many(1, SIXTY) == Many(1, SIXTY))
        self.assertFalse(Many(1, SIXTY) == Many(1, SIXTY + 1))
        self.assertFalse(Many(SIXTY) == Many(SIXTY + 1))

    def test_values_of_other_kinds(self):
        for value in strange_values() + [2, 0, "2", "2..6", (2, 6), [2, 6], Ratio(2)]:
            for many in (Many(2, 2), Many(2, 6), Many(0), Many(0, 0)):
                self.assertIs(many == value, False)
                self.assertIs(value == many, False)
                self.assertIs(many != value, True)


class Ordered(unittest.TestCase):
    RISING = [Many(0, 0), Many(0, 1), Many(0, 2), Many(0, SIXTY), Many(0, SIXTY + 1), Many(0), Many(1, 1), Many(1, 6),
              Many(1), Many(2, 2), Many(2, 3), Many(2), Many(SIXTY, SIXTY), Many(SIXTY), Many(SIXTY + 1, SIXTY + 1)]

    def test_each_two(self):
        for (i, one), (k, other) in itertools.product(enumerate(self.RISING), repeat=2):
            self.assertIs(one < other, i < k)
            self.assertIs(one <= other, i <= k)
            self.assertIs(one > other, i > k)
            self.assertIs(one >= other, i >= k)
            self.assertIs(one == other, i == k)
            self.assertIs(one != other, i != k)

    def test_equal_ones(self):
        for one, other in ((Many(1, 6), Many(1, 6)), (Many(2), Many(2))):
            self.assertEqual([one < other, one <= other, one > other, one >= other], [False, True, False, True])

    def test_lists(self):
        rows = self.RISING[::-1]
        self.assertEqual([str(many) for many in sorted(rows)], [str(many) for many in self.RISING])
        self.assertEqual(rows, self.RISING[::-1])
        self.assertEqual([min(rows), max(rows)], [Many(0, 0), Many(SIXTY + 1, SIXTY + 1)])
        self.assertEqual(max([Many(2, 9), Many(2), Many(1)]), Many(2))
        self.assertEqual(sorted(rows, reverse=True), rows)

    def test_each_operator_by_itself(self):
        # By its sign, Python would take the mirrored one in the place of one that answers nothing.
        low, high = Many(1, 6), Many(1)
        self.assertEqual([low.__lt__(high), high.__lt__(low), low.__lt__(low)], [True, False, False])
        self.assertEqual([low.__le__(high), high.__le__(low), low.__le__(low)], [True, False, True])
        self.assertEqual([low.__gt__(high), high.__gt__(low), low.__gt__(low)], [False, True, False])
        self.assertEqual([low.__ge__(high), high.__ge__(low), low.__ge__(low)], [False, True, True])

    def test_no_order_with_values_of_other_kinds(self):
        for value in strange_values() + [1, Ratio(1)]:
            for compare in (operator.lt, operator.le, operator.gt, operator.ge):
                self.assertRaises(TypeError, compare, Many(1), value)
                self.assertRaises(TypeError, compare, value, Many(1))


class Read(Checks, unittest.TestCase):
    def test_texts(self):
        rows = [("2..6", (2, 6)), ("2..*", (2, None)), ("2", (2, 2)), ("0", (0, 0)), ("0..*", (0, None)),
                ("0..1", (0, 1)), ("9..10", (9, 10)), ("10..100", (10, 100)), (str(SIXTY), (SIXTY, SIXTY)),
                (f"{SIXTY}..{SIXTY_MORE}", (SIXTY, SIXTY_MORE)), (f"{SIXTY}..*", (SIXTY, None))]
        for text, parts in rows:
            for many in (Many.read(text), Many.read(text=text)):
                self.assertIs(type(many), Many)
                self.assertEqual((many.least, many.most), parts)

    def test_what_is_told_is_read_back(self):
        for many in some_manys() + [Many(SIXTY), Many(SIXTY, SIXTY_MORE), Many.just(SIXTY), Many(10, 20)]:
            self.assertEqual(Many.read(str(many)), many)

    def test_wrong_texts(self):
        wrong = ["", " ", "\n", "a", "*", "..", "..*", "*..*", "*..2", "2..", "..2", "2.", "2.*", "2.6", "2...6",
                 "2....6", "2..2", "0..0", "3..2", "10..9", "1..0", "00", "02", "02..6", "2..06", "00..1", "0..01",
                 "+2", "-2", "-0", "2..+6", "2..-6", "-1..2", " 2", "2 ", "2 ..6", "2.. 6", "2..6 ", " 2..6",
                 "2\n", "2..6\n", "2..*\n", "\n2", "2..\n6", "2..**", "2..*6", "2..6*", "2*", "2..6..8", "2..*..*",
                 "2,6", "2-6", "2:6", "2..6.", ".2..6", "2_0", "2..1_0", "0x2", "2..6a", "a..6", "two", "1..None",
                 "Many(2)", "2/1", f"{SIXTY}..{SIXTY}", f"{SIXTY + 1}..{SIXTY}", f"0{SIXTY}", "2..2..2"]
        for text in wrong:
            self.assertEqual(self.raised(InvalidText, Many.read, text).line, 1, text)
            self.assertEqual(self.raised(InvalidText, Many.read, text=text).line, 1, text)

    def test_just_the_texts_of_manys_are_read(self):
        texts = [str(Many(least, most)) for least in range(13) for most in [*range(least, 13), None]]
        for length in range(1, 6):
            for signs in itertools.product("012.*", repeat=length):
                text = "".join(signs)
                first, dots, last = text.partition("..")
                try:
                    is_text = str(Many(int(first), None if last == "*" else int(last if dots else first))) == text
                except ValueError:
                    is_text = False
                if is_text:
                    self.assertEqual(str(Many.read(text)), text)
                else:
                    self.raised(InvalidText, Many.read, text)
        for text in texts:
            self.assertEqual(str(Many.read(text)), text)

    def test_no_strings(self):
        values = [value for value in strange_values() if not isinstance(value, str)]
        for value in values + [0, 2, SIXTY, b"2..6", ["2"], ("2", "6"), {"2": "6"}, Many(2, 6), Ratio(2)]:
            self.assertEqual(self.raised(InvalidText, Many.read, value).line, 1)


if __name__ == "__main__":
    unittest.main()
