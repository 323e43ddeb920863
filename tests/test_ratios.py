"""Ratios."""

import itertools
import unittest
from fractions import Fraction

from howmanyeach.errors import InvalidCount, InvalidNumber, InvalidRatio
from howmanyeach.manys import Many
from howmanyeach.ratios import Ratio
from tests.helpers import SIXTY, SIXTY_MORE, Checks, strange_values

THIRTY = 10 ** 29 + 1
THIRTY_MORE = 3 * 10 ** 29 + 7


def some_ratios():
    return [Ratio(top, bottom) for top in range(6) for bottom in range(1, 5)]


def counts():
    return [0, 1, 2, 3, THIRTY]


def fraction(value):
    """The same number of Python's own, of a Ratio or a COUNT."""
    if isinstance(value, Ratio):
        return Fraction(value.top, value.bottom)
    return Fraction(value)


class Made(Checks, unittest.TestCase):
    def test_lowest_terms(self):
        for top, bottom, parts in [(6, 4, (3, 2)), (3, 2, (3, 2)), (4, 2, (2, 1)), (2, 4, (1, 2)), (1, 1, (1, 1)),
                                   (7, 7, (1, 1)), (0, 1, (0, 1)), (0, 5, (0, 1)), (12, 18, (2, 3)),
                                   (6 * SIXTY, 4 * SIXTY, (3, 2)), (SIXTY, SIXTY, (1, 1)),
                                   (THIRTY * 3, 3, (THIRTY, 1))]:
            for ratio in (Ratio(top, bottom), Ratio(top=top, bottom=bottom), Ratio(bottom=bottom, top=top)):
                self.assertIs(type(ratio), Ratio)
                self.assertEqual((ratio.top, ratio.bottom), parts)

    def test_without_a_bottom(self):
        for ratio in (Ratio(7), Ratio(top=7)):
            self.assertEqual((ratio.top, ratio.bottom), (7, 1))
        self.assertEqual((Ratio(0).top, Ratio(0).bottom), (0, 1))

    def test_wrong_top(self):
        for value in strange_values() + [Many(1), Ratio(1)]:
            self.refused(InvalidCount, value, Ratio, value)
            self.refused(InvalidCount, value, Ratio, value, 2)
            self.refused(InvalidCount, value, Ratio, value, 0)
            self.refused(InvalidCount, value, Ratio, bottom="a", top=value)

    def test_wrong_bottom(self):
        for value in strange_values() + [0, Many(1), Ratio(1)]:
            self.refused(InvalidNumber, value, Ratio, 3, value)
            self.refused(InvalidNumber, value, Ratio, 0, value)
            self.refused(InvalidNumber, value, Ratio, top=0, bottom=value)

    def test_parts_do_not_change(self):
        ratio = Ratio(3, 2)
        for name in ("top", "bottom"):
            self.assertRaises(AttributeError, setattr, ratio, name, 5)
        self.assertEqual((ratio.top, ratio.bottom), (3, 2))


class Told(unittest.TestCase):
    def test_texts(self):
        for ratio, text in [(Ratio(7), "7"), (Ratio(6, 4), "3/2"), (Ratio(0), "0"), (Ratio(0, 3), "0"),
                            (Ratio(4, 2), "2"), (Ratio(1, 10), "1/10"), (Ratio(SIXTY), str(SIXTY)),
                            (Ratio(1, SIXTY), f"1/{SIXTY}")]:
            self.assertEqual(str(ratio), text)

    def test_repr(self):
        for ratio, text in [(Ratio(6, 4), "Ratio(3, 2)"), (Ratio(4), "Ratio(4, 1)"), (Ratio(0, 9), "Ratio(0, 1)"),
                            (Ratio(SIXTY, 2 * SIXTY + 1), f"Ratio({SIXTY}, {2 * SIXTY + 1})")]:
            self.assertEqual(repr(ratio), text)

    def test_bool(self):
        for ratio in (Ratio(1), Ratio(1, 2), Ratio(1, SIXTY), Ratio(SIXTY)):
            self.assertIs(bool(ratio), True)
        for ratio in (Ratio(0), Ratio(0, 4)):
            self.assertIs(bool(ratio), False)

    def test_equal(self):
        for one, other in itertools.product(some_ratios(), repeat=2):
            self.assertIs(one == other, fraction(one) == fraction(other))
            self.assertIs(one != other, fraction(one) != fraction(other))
        self.assertFalse(Ratio(SIXTY, SIXTY + 1) == Ratio(SIXTY + 1, SIXTY + 2))

    def test_not_equal_to_values_of_other_kinds(self):
        for value in strange_values() + [0, 1, 2, "1", "1/2", (1, 2), Fraction(1), Many(1, 1)]:
            for ratio in (Ratio(0), Ratio(1), Ratio(1, 2), Ratio(2)):
                self.assertIs(ratio == value, False)
                self.assertIs(value == ratio, False)
                self.assertIs(ratio != value, True)


class Reckoned(Checks, unittest.TestCase):
    def check(self, got, wanted):
        self.assertIs(type(got), Ratio)
        self.assertEqual((got.top, got.bottom), (wanted.numerator, wanted.denominator))

    def test_by_hand(self):
        self.assertEqual(repr(Ratio(1, 2) + Ratio(1, 3)), "Ratio(5, 6)")
        self.assertEqual(repr(Ratio(1, 2) + 1), "Ratio(3, 2)")
        self.assertEqual(repr(2 + Ratio(1, 2)), "Ratio(5, 2)")
        self.assertEqual(repr(Ratio(2, 3) * Ratio(3, 4)), "Ratio(1, 2)")
        self.assertEqual(repr(Ratio(2, 3) * 3), "Ratio(2, 1)")
        self.assertEqual(repr(0 * Ratio(2, 3)), "Ratio(0, 1)")
        self.assertEqual(repr(Ratio(2, 3).over(Ratio(4, 9))), "Ratio(3, 2)")
        self.assertEqual(repr(Ratio(2, 3).over(2)), "Ratio(1, 3)")

    def test_two_ratios(self):
        for one, other in itertools.product(some_ratios(), repeat=2):
            before = [repr(one), repr(other)]
            self.check(one + other, fraction(one) + fraction(other))
            self.check(one * other, fraction(one) * fraction(other))
            if other:
                self.check(one.over(other), fraction(one) / fraction(other))
                self.check(one.over(other=other), fraction(one) / fraction(other))
            self.assertEqual([repr(one), repr(other)], before)

    def test_with_a_count(self):
        for ratio, count in itertools.product(some_ratios(), counts()):
            self.check(ratio + count, fraction(ratio) + count)
            self.check(count + ratio, count + fraction(ratio))
            self.check(ratio * count, fraction(ratio) * count)
            self.check(count * ratio, count * fraction(ratio))
            if count:
                self.check(ratio.over(count), fraction(ratio) / count)

    def test_thirty_digits(self):
        one, other = Ratio(THIRTY, THIRTY_MORE), Ratio(THIRTY_MORE, 3)
        self.check(one + other, fraction(one) + fraction(other))
        self.check(one * other, fraction(one) * fraction(other))
        self.check(one.over(other), fraction(one) / fraction(other))

    def test_sum(self):
        self.check(sum([Ratio(1, 2), Ratio(1, 3), Ratio(1, 6)]), Fraction(1))
        self.check(sum([Ratio(3, 2)]), Fraction(3, 2))
        self.check(sum([Ratio(1, 4), 2, Ratio(0)]), Fraction(9, 4))
        self.check(sum([Ratio(1, 4), Ratio(1, 4)], Ratio(1, 2)), Fraction(1))

    def test_other_values(self):
        for value in strange_values():
            self.refused(InvalidRatio, value, lambda at: Ratio(1, 2) + at, value)
            self.refused(InvalidRatio, value, lambda at: at + Ratio(1, 2), value)
            self.refused(InvalidRatio, value, lambda at: Ratio(1, 2) * at, value)
            self.refused(InvalidRatio, value, lambda at: at * Ratio(1, 2), value)

    def test_a_many_beside_it(self):
        self.refused(InvalidRatio, Many(1, 2), lambda: Ratio(1) + Many(1, 2))
        self.refused(InvalidRatio, Many(1, 2), lambda: Ratio(1) * Many(1, 2))

    def test_over_other_values(self):
        for value in strange_values() + [0, Ratio(0), Ratio(0, 7), Many(1)]:
            for ratio in (Ratio(1, 2), Ratio(0)):
                self.refused(InvalidRatio, value, ratio.over, value)
                self.refused(InvalidRatio, value, ratio.over, other=value)


class Compared(Checks, unittest.TestCase):
    def test_by_hand(self):
        self.assertIs(Ratio(2, 3).is_below(Ratio(3, 4)), True)
        self.assertIs(Ratio(3, 4).is_below(Ratio(2, 3)), False)
        self.assertIs(Ratio(3, 4).is_below(Ratio(6, 8)), False)
        self.assertIs(Ratio(3, 4).is_at_most(Ratio(6, 8)), True)
        self.assertIs(Ratio(3, 4).is_at_most(1), True)
        self.assertIs(Ratio(5, 4).is_at_most(1), False)

    def test_all(self):
        for one, other in itertools.product(some_ratios(), some_ratios() + counts()):
            self.assertIs(one.is_below(other), fraction(one) < fraction(other))
            self.assertIs(one.is_below(other=other), fraction(one) < fraction(other))
            self.assertIs(one.is_at_most(other), fraction(one) <= fraction(other))
            self.assertIs(one.is_at_most(other=other), fraction(one) <= fraction(other))

    def test_thirty_digits(self):
        low, high = Ratio(THIRTY, THIRTY + 1), Ratio(THIRTY + 1, THIRTY + 2)
        self.assertEqual([low.is_below(high), high.is_below(low), low.is_below(low)], [True, False, False])
        self.assertEqual([low.is_at_most(high), high.is_at_most(low), low.is_at_most(low)], [True, False, True])

    def test_other_values(self):
        for value in strange_values() + [Many(1)]:
            self.refused(InvalidRatio, value, Ratio(1, 2).is_below, value)
            self.refused(InvalidRatio, value, Ratio(1, 2).is_below, other=value)
            self.refused(InvalidRatio, value, Ratio(1, 2).is_at_most, value)
            self.refused(InvalidRatio, value, Ratio(1, 2).is_at_most, other=value)


class LeastAndMost(Checks, unittest.TestCase):
    def test_by_hand(self):
        self.assertEqual([Ratio(2, 3).least_at(10), Ratio(2, 3).most_at(10)], [7, 6])
        self.assertEqual([Ratio(2, 3).least_at(9), Ratio(2, 3).most_at(9)], [6, 6])
        self.assertEqual([Ratio(2, 3).least_at(0), Ratio(2, 3).most_at(0)], [0, 0])
        self.assertEqual([Ratio(0).least_at(8), Ratio(0).most_at(8)], [0, 0])
        self.assertEqual([Ratio(3).least_at(8), Ratio(3).most_at(8)], [24, 24])

    def test_by_counting(self):
        for ratio, count in itertools.product(some_ratios(), range(9)):
            wanted = count * fraction(ratio)
            least = next(number for number in itertools.count() if number >= wanted)
            most = max(number for number in range(60) if number <= wanted)
            for got in (ratio.least_at(count), ratio.least_at(count=count)):
                self.assertIs(type(got), int)
                self.assertEqual(got, least)
            for got in (ratio.most_at(count), ratio.most_at(count=count)):
                self.assertIs(type(got), int)
                self.assertEqual(got, most)

    def test_long_numbers(self):
        for ratio, count in itertools.product([Ratio(THIRTY, THIRTY_MORE), Ratio(THIRTY_MORE, 7), Ratio(1, SIXTY)],
                                              [THIRTY, THIRTY_MORE, SIXTY, SIXTY_MORE]):
            wanted = count * fraction(ratio)
            least, most = ratio.least_at(count), ratio.most_at(count)
            self.assertTrue(least - 1 < wanted <= least)
            self.assertTrue(most <= wanted < most + 1)

    def test_no_count(self):
        for value in strange_values() + [Ratio(1), Many(1)]:
            self.refused(InvalidCount, value, Ratio(1, 2).least_at, value)
            self.refused(InvalidCount, value, Ratio(1, 2).least_at, count=value)
            self.refused(InvalidCount, value, Ratio(1, 2).most_at, value)
            self.refused(InvalidCount, value, Ratio(1, 2).most_at, count=value)


class Example(unittest.TestCase):
    def test_of_the_document(self):
        told = [Ratio(6, 4), Ratio(2, 3).is_below(Ratio(3, 4)), Ratio(2, 3).least_at(10),
                2 * Ratio(1, 2) == Ratio(1)]
        self.assertEqual(repr(told), "[Ratio(3, 2), True, 7, True]")


if __name__ == "__main__":
    unittest.main()
