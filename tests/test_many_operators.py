"""Manys: which numbers they let, and how they are joined."""

import itertools
import unittest

from howmanyeach.errors import Apart, InvalidMany
from howmanyeach.manys import Many
from howmanyeach.ratios import Ratio
from tests.helpers import SIXTY, SIXTY_MORE, Checks, some_manys, strange_values

# Above all numbers of some_manys: beyond 4, only Manys without a most number let any.
MANY_NUMBERS = range(8)


def let_by(many):
    return [number for number in MANY_NUMBERS
            if many.least <= number and (many.most is None or number <= many.most)]


def each_two():
    return itertools.product(some_manys(), repeat=2)


def parts(many):
    return (many.least, many.most)


class Lets(unittest.TestCase):
    def test_by_hand(self):
        for number, many, is_let in [(0, Many(0), True), (0, Many(1), False), (1, Many(2, 6), False),
                                     (2, Many(2, 6), True), (6, Many(2, 6), True), (7, Many(2, 6), False),
                                     (4, Many(2), True), (SIXTY, Many(2), True), (SIXTY, Many(2, SIXTY), True),
                                     (SIXTY + 1, Many(2, SIXTY), False), (SIXTY - 1, Many(SIXTY), False)]:
            self.assertIs(number in many, is_let)
            self.assertIs(number not in many, not is_let)

    def test_by_counting(self):
        for many in some_manys():
            self.assertEqual([number for number in MANY_NUMBERS if number in many], let_by(many))

    def test_other_values(self):
        for value in strange_values() + [Many(1), Ratio(1), "0..*"]:
            for many in (Many(0), Many(0, 6), Many(1, 1), Many(0, 0)):
                self.assertIs(value in many, False)


class Within(Checks, unittest.TestCase):
    def test_by_hand(self):
        for one, other, is_it in [(Many(2, 2), Many(1, 6), True), (Many(1, 6), Many(1, 6), True),
                                  (Many(0, 6), Many(1, 6), False), (Many(1, 7), Many(1, 6), False),
                                  (Many(1), Many(1, SIXTY), False), (Many(1, SIXTY), Many(1), True),
                                  (Many(2), Many(2), True), (Many(2), Many(3), False), (Many(3), Many(2), True)]:
            self.assertIs(one.is_within(other), is_it)
            self.assertIs(one.is_within(other=other), is_it)

    def test_by_counting(self):
        for one, other in each_two():
            is_it = all(number in let_by(other) for number in let_by(one))
            self.assertIs(one.is_within(other), is_it)

    def test_other_values(self):
        for value in strange_values() + [0, 1, Ratio(1)]:
            self.refused(InvalidMany, value, Many(1, 6).is_within, value)
            self.refused(InvalidMany, value, Many(1).is_within, other=value)


class Both(Checks, unittest.TestCase):
    def test_by_hand(self):
        for one, other, joined in [(Many(1, 6), Many(2), (2, 6)), (Many(2), Many(1, 6), (2, 6)),
                                   (Many(1), Many(3), (3, None)), (Many(0, 3), Many(3, 6), (3, 3)),
                                   (Many(0, SIXTY_MORE), Many(SIXTY), (SIXTY, SIXTY_MORE))]:
            self.assertEqual(parts(one & other), joined)

    def test_by_counting(self):
        for one, other in each_two():
            numbers = [number for number in let_by(one) if number in let_by(other)]
            before = [parts(one), parts(other)]
            if numbers:
                joined = one & other
                self.assertIs(type(joined), Many)
                self.assertEqual(let_by(joined), numbers)
                self.assertEqual(joined.most is None, one.most is None and other.most is None)
            else:
                error = self.raised(Apart, lambda: one & other)
                self.assertEqual([error.one, error.other], [one, other])
            self.assertEqual([parts(one), parts(other)], before)

    def test_apart_in_their_sequence(self):
        for one, other in [(Many(0, 1), Many(2)), (Many(2), Many(0, 1)), (Many(SIXTY), Many(0, SIXTY - 1))]:
            error = self.raised(Apart, lambda: one & other)
            self.assertEqual([parts(error.one), parts(error.other)], [parts(one), parts(other)])

    def test_other_values(self):
        for value in strange_values() + [0, 1, Ratio(1)]:
            self.refused(InvalidMany, value, lambda at: Many(1, 6) & at, value)


class OneOrOther(Checks, unittest.TestCase):
    def test_by_hand(self):
        for one, other, joined in [(Many(0, 1), Many(4, 5), (0, 5)), (Many(4, 5), Many(0, 1), (0, 5)),
                                   (Many(3), Many(1, 2), (1, None)), (Many(1, 6), Many(2, 3), (1, 6)),
                                   (Many(2, 3), Many(1, 6), (1, 6)), (Many(2), Many(3), (2, None)),
                                   (Many.just(SIXTY_MORE), Many.just(SIXTY), (SIXTY, SIXTY_MORE))]:
            self.assertEqual(parts(one | other), joined)

    def test_by_counting(self):
        for one, other in each_two():
            both = let_by(one) + let_by(other)
            before = [parts(one), parts(other)]
            joined = one | other
            self.assertIs(type(joined), Many)
            self.assertEqual(let_by(joined), list(range(min(both), max(both) + 1)))
            self.assertEqual(joined.most is None, one.most is None or other.most is None)
            self.assertEqual([parts(one), parts(other)], before)

    def test_other_values(self):
        for value in strange_values() + [0, 1, Ratio(1)]:
            self.refused(InvalidMany, value, lambda at: Many(1, 6) | at, value)


class Sum(Checks, unittest.TestCase):
    def test_by_hand(self):
        for one, other, joined in [(Many(1, 2), Many(3, 5), (4, 7)), (Many(0, 0), Many(3, 5), (3, 5)),
                                   (Many(1), Many(3, 5), (4, None)), (Many(3, 5), Many(1), (4, None)),
                                   (Many(0, 0), Many(0), (0, None)), (Many(0), Many(0, 0), (0, None)),
                                   (Many(2), Many(3), (5, None)),
                                   (Many(SIXTY, SIXTY_MORE), Many(1, 2), (SIXTY + 1, SIXTY_MORE + 2))]:
            self.assertEqual(parts(one + other), joined)

    def test_by_counting(self):
        for one, other in each_two():
            sums = [a + b for a in let_by(one) for b in let_by(other)]
            is_open = one.most is None or other.most is None
            before = [parts(one), parts(other)]
            joined = one + other
            self.assertIs(type(joined), Many)
            self.assertEqual(parts(joined), (min(sums), None if is_open else max(sums)))
            self.assertEqual([parts(one), parts(other)], before)

    def test_other_values(self):
        for value in strange_values() + [0, 1, Ratio(1)]:
            self.refused(InvalidMany, value, lambda at: Many(1, 6) + at, value)


class Product(Checks, unittest.TestCase):
    def test_by_hand(self):
        for one, other, joined in [(Many(1, 2), Many(3, 5), (3, 10)), (Many(1, 2), Many(0), (0, None)),
                                   (Many(0), Many(1, 2), (0, None)), (Many(0, 0), Many(3), (0, 0)),
                                   (Many(3), Many(0, 0), (0, 0)), (Many(2), Many(3), (6, None)),
                                   (Many(0), Many(0), (0, None)), (Many(0, 1), Many(2), (0, None)),
                                   (Many(SIXTY), Many(2), (2 * SIXTY, None)),
                                   (Many(2, SIXTY), Many(SIXTY, SIXTY), (2 * SIXTY, SIXTY * SIXTY))]:
            self.assertEqual(parts(one * other), joined)

    def test_by_counting(self):
        for one, other in each_two():
            products = [a * b for a in let_by(one) for b in let_by(other)]
            is_open = (one.most is None or other.most is None) and max(products) > 0
            before = [parts(one), parts(other)]
            joined = one * other
            self.assertIs(type(joined), Many)
            self.assertEqual(parts(joined), (min(products), None if is_open else max(products)))
            self.assertEqual([parts(one), parts(other)], before)

    def test_counts(self):
        for number, many, joined in [(3, Many(1, 2), (3, 6)), (0, Many(1, 2), (0, 0)), (0, Many(1), (0, 0)),
                                     (1, Many(2), (2, None)), (2, Many(0, 0), (0, 0)), (5, Many(3), (15, None)),
                                     (SIXTY, Many(1, 2), (SIXTY, 2 * SIXTY))]:
            self.assertIs(type(number * many), Many)
            self.assertIs(type(many * number), Many)
            self.assertEqual(parts(number * many), joined)
            self.assertEqual(parts(many * number), joined)
            self.assertEqual(number * many, Many.just(number) * many)

    def test_other_values_on_the_right(self):
        for value in strange_values() + [Ratio(1), Ratio(0)]:
            self.refused(InvalidMany, value, lambda at: Many(1, 6) * at, value)

    def test_other_values_on_the_left(self):
        for value in strange_values():
            self.refused(InvalidMany, value, lambda at: at * Many(1, 6), value)
            self.refused(InvalidMany, value, lambda at: at * Many(2), value)


class Example(unittest.TestCase):
    def test_of_the_document(self):
        told = [str(Many(1, 6) & Many(2)), str(Many(1, 2) * Many(0)), str(3 * Many(1, 2)), 4 in Many(2),
                Many.just(2).is_within(Many(1, 6))]
        self.assertEqual(told, ["2..6", "0..*", "3..6", True, True])


if __name__ == "__main__":
    unittest.main()
