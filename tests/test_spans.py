"""Spans of ratios."""

import itertools
import unittest

from howmanyeach.errors import InvalidRatio
from howmanyeach.manys import Many
from howmanyeach.ratios import Ratio, Span
from tests.helpers import SIXTY, Checks, strange_values

BOUNDS = [Ratio(0), Ratio(1, 2), Ratio(1), Ratio(3, 2), Ratio(2)]


def some_spans():
    return [Span(low, is_had, high)
            for low, is_had, high in itertools.product(BOUNDS, [True, False], BOUNDS + [None])
            if high is None or low.is_at_most(high)]


class Made(Checks, unittest.TestCase):
    def test_parts(self):
        for low, is_had, high in [(Ratio(2, 5), True, Ratio(4)), (Ratio(0), False, None), (Ratio(1), True, Ratio(1)),
                                  (Ratio(1), False, Ratio(1)), (Ratio(0), True, Ratio(0)),
                                  (Ratio(1, SIXTY), False, Ratio(SIXTY))]:
            for span in (Span(low, is_had, high), Span(low=low, is_had=is_had, high=high),
                         Span(high=high, low=low, is_had=is_had)):
                self.assertEqual([span.low, span.high], [low, high])
                self.assertIs(span.is_had, is_had)

    def test_wrong_low(self):
        for value in strange_values() + [0, 1, Many(1)]:
            if not isinstance(value, Ratio):
                self.refused(InvalidRatio, value, Span, value, True, Ratio(1))
                self.refused(InvalidRatio, value, Span, value, False, None)
                self.refused(InvalidRatio, value, Span, value, True, "high")
                self.refused(InvalidRatio, value, Span, high=3, low=value, is_had=True)

    def test_wrong_high(self):
        for value in strange_values() + [0, 1, 2, Many(1)]:
            if value is not None:
                self.refused(InvalidRatio, value, Span, Ratio(1), True, value)
                self.refused(InvalidRatio, value, Span, low=Ratio(0), is_had=False, high=value)

    def test_high_below_low(self):
        for low, high in [(Ratio(1), Ratio(0)), (Ratio(1), Ratio(9, 10)), (Ratio(3, 4), Ratio(2, 3)),
                          (Ratio(SIXTY + 2, SIXTY + 1), Ratio(SIXTY + 3, SIXTY + 2))]:
            self.refused(InvalidRatio, high, Span, low, True, high)
            self.refused(InvalidRatio, high, Span, low=low, is_had=False, high=high)

    def test_parts_do_not_change(self):
        span = Span(Ratio(1), True, None)
        for name in ("low", "is_had", "high"):
            self.assertRaises(AttributeError, setattr, span, name, Ratio(2))


class Contains(unittest.TestCase):
    def test_by_hand(self):
        for value, span, is_in in [(Ratio(2, 5), Span(Ratio(2, 5), True, Ratio(4)), True),
                                   (Ratio(2, 5), Span(Ratio(2, 5), False, Ratio(4)), False),
                                   (Ratio(4), Span(Ratio(2, 5), False, Ratio(4)), True),
                                   (4, Span(Ratio(2, 5), True, Ratio(4)), True),
                                   (5, Span(Ratio(2, 5), True, Ratio(4)), False),
                                   (0, Span(Ratio(2, 5), True, Ratio(4)), False),
                                   (Ratio(41, 10), Span(Ratio(2, 5), True, Ratio(4)), False),
                                   (0, Span(Ratio(0), False, None), False), (0, Span(Ratio(0), True, None), True),
                                   (SIXTY, Span(Ratio(0), False, None), True),
                                   (Ratio(1, SIXTY), Span(Ratio(0), False, None), True),
                                   (1, Span(Ratio(1), True, Ratio(1)), True),
                                   (1, Span(Ratio(1), False, Ratio(1)), False)]:
            self.assertIs(value in span, is_in)
            self.assertIs(value not in span, not is_in)

    def test_all(self):
        values = BOUNDS + [Ratio(1, 4), Ratio(3, 4), Ratio(5, 4), Ratio(7, 4), Ratio(9, 4), Ratio(5), 0, 1, 2, 3]
        for span, value in itertools.product(some_spans(), values):
            ratio = value if isinstance(value, Ratio) else Ratio(value)
            is_in = span.low.is_below(ratio) or (span.is_had and ratio == span.low)
            if span.high is not None and span.high.is_below(ratio):
                is_in = False
            self.assertIs(value in span, is_in, (value, span))

    def test_no_other_value(self):
        for value in strange_values() + [Many(1, 1), "1/2", Fake()]:
            for span in (Span(Ratio(0), True, None), Span(Ratio(0), True, Ratio(2)), Span(Ratio(0), False, None)):
                self.assertIs(value in span, False)


class Fake:
    """Looks like a Ratio, and is none."""

    top = 1
    bottom = 2


class Told(unittest.TestCase):
    def test_texts(self):
        for span, text in [(Span(Ratio(2, 5), True, Ratio(4)), "2/5..4"), (Span(Ratio(1), True, Ratio(1)), "1..1"),
                           (Span(Ratio(0), False, None), ">0..*"), (Span(Ratio(0), True, None), "0..*"),
                           (Span(Ratio(1, 3), False, Ratio(1, 2)), ">1/3..1/2"),
                           (Span(Ratio(0), True, Ratio(0)), "0..0"),
                           (Span(Ratio(1, SIXTY), True, Ratio(SIXTY)), f"1/{SIXTY}..{SIXTY}")]:
            self.assertEqual(str(span), text)

    def test_repr(self):
        for span, text in [(Span(Ratio(2, 5), True, Ratio(4)), "Span(Ratio(2, 5), True, Ratio(4, 1))"),
                           (Span(Ratio(0), False, None), "Span(Ratio(0, 1), False, None)"),
                           (Span(Ratio(1), False, Ratio(1)), "Span(Ratio(1, 1), False, Ratio(1, 1))")]:
            self.assertEqual(repr(span), text)

    def test_equal(self):
        for (i, one), (k, other) in itertools.product(enumerate(some_spans()), enumerate(some_spans())):
            self.assertIs(one == other, i == k)
            self.assertIs(one != other, i != k)

    def test_not_equal_to_values_of_other_kinds(self):
        values = [0, 1, True, None, "1..1", "0..*", (Ratio(1), True, Ratio(1)), [Ratio(1), True, Ratio(1)],
                  {}, Ratio(1), Many(1, 1), object()]
        for span, value in itertools.product([Span(Ratio(1), True, Ratio(1)), Span(Ratio(0), True, None)], values):
            self.assertIs(span == value, False)
            self.assertIs(value == span, False)
            self.assertIs(span != value, True)


if __name__ == "__main__":
    unittest.main()
