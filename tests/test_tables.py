"""Tables, against their pairs told one by one."""

import itertools
import unittest

from howmanyeach.errors import InvalidCount, InvalidEnd, InvalidPair, InvalidRow, InvalidTotal
from howmanyeach.tables import Table
from tests.helpers import SIXTY, SIXTY_MORE, Checks, own_things, strange_values


def pairs_of(near, far, total):
    """The pairs in the sequence of their numbers, as the document tells them."""
    if total == 0:
        return []
    few, more = divmod(total, near)
    starts = [row * few + min(row, more) for row in range(near + 1)]
    return [(row, number % far) for row in range(near) for number in range(starts[row], starts[row + 1])]


def small_tables():
    for near, far in itertools.product(range(7), repeat=2):
        for total in range(near * far + 1):
            yield near, far, total


class ByCounting(unittest.TestCase):
    def test_pairs(self):
        for near, far, total in small_tables():
            table, pairs = Table(near, far, total), pairs_of(near, far, total)
            self.assertEqual([table(number) for number in range(total)], pairs)
            self.assertEqual(len(set(pairs)), total)
            for row, partner in itertools.product(range(near), range(far)):
                number = pairs.index((row, partner)) if (row, partner) in pairs else None
                self.assertEqual(table.number_of(row, partner), number)
                self.assertIs((row, partner) in table, number is not None)

    def test_partners(self):
        for near, far, total in small_tables():
            table, pairs = Table(near, far, total), pairs_of(near, far, total)
            for end, size, at in (("near", near, 0), ("far", far, 1)):
                for row in range(size):
                    partners = [pair[1 - at] for pair in pairs if pair[at] == row]
                    self.assertEqual(list(table.each_partner(end, row)), partners)
                    self.assertEqual(table.degree(end, row), len(partners))
                    self.assertEqual([table.partner(end, row, place) for place in range(len(partners))], partners)
                    few, more = divmod(total, size)
                    self.assertEqual(len(partners), few + 1 if row < more else few)

    def test_by_name(self):
        table = Table(total=10, far=6, near=4)
        self.assertEqual(table, Table(4, 6, 10))
        self.assertEqual([table(number=9), table.number_of(far=3, near=3)], [(3, 3), 9])
        self.assertEqual([table.degree(row=1, end="near"), table.partner(place=1, row=1, end="far")], [3, 2])
        self.assertEqual(list(table.each_partner(row=1, end="far")), [0, 2])


class Long(unittest.TestCase):
    """Tables with sizes of sixty digits."""

    def check(self, near, far, total, numbers):
        table = Table(near, far, total)
        few, more = divmod(total, near)
        for number in numbers:
            row, partner = table(number)
            self.assertEqual(partner, number % far)
            start = row * few + min(row, more)
            self.assertTrue(start <= number < start + few + (row < more))
            self.assertEqual(table.number_of(row, partner), number)
            self.assertIn((row, partner), table)
            self.assertEqual(table.degree("near", row), few + (row < more))
            self.assertEqual(table.degree("far", partner), total // far + (partner < total % far))
            self.assertEqual(table.partner("near", row, number - start), partner)
            self.assertEqual(table.partner("far", partner, number // far), row)
        return table

    def test_long_tables(self):
        for near, far in ((SIXTY, SIXTY_MORE), (SIXTY_MORE, SIXTY), (SIXTY, SIXTY), (3, SIXTY), (SIXTY, 3), (1, SIXTY),
                          (SIXTY, 1), (10 ** 60, 10 ** 60)):
            for total in (1, near, far, near + far - 1, near * far // 2, near * far // 3 + 1, near * far - 1, near * far):
                if total <= near * far:
                    numbers = [0, total // 7, total // 2, total - total // 5 - 1, total - 1]
                    self.check(near, far, total, numbers)

    def test_by_hand(self):
        table = self.check(10 ** 60, 10 ** 30, 2 * 10 ** 60, [5, 10 ** 60])
        self.assertEqual([table(5), table(10 ** 60)], [(2, 5), (5 * 10 ** 59, 0)])
        self.assertEqual(table.number_of(3, 6), 6)
        self.assertIsNone(table.number_of(3, 8))
        self.assertFalse((3, 8) in table)
        self.assertEqual(table.degree("far", 10 ** 30 - 1), 2 * 10 ** 30)
        self.assertEqual(list(table.each_partner("near", 10 ** 60 - 1)), [10 ** 30 - 2, 10 ** 30 - 1])

    def test_the_first_of_very_many_partners(self):
        table = Table(SIXTY, SIXTY_MORE, SIXTY * SIXTY_MORE)
        self.assertEqual(list(itertools.islice(table.each_partner("near", 0), 3)), [0, 1, 2])
        self.assertEqual(list(itertools.islice(table.each_partner("far", 4), 3)), [0, 1, 2])

    def test_all_or_nothing(self):
        table = Table(SIXTY, SIXTY, 0)
        self.assertEqual([table.degree("near", SIXTY - 1), table.number_of(5, 7), (5, 7) in table], [0, None, False])
        self.assertEqual(list(table.each_partner("far", 0)), [])
        table = Table(SIXTY, SIXTY_MORE, SIXTY * SIXTY_MORE)
        self.assertEqual(table.number_of(SIXTY - 1, SIXTY_MORE - 1), SIXTY * SIXTY_MORE - 1)


class Told(unittest.TestCase):
    def test_parts(self):
        for near, far, total in [(0, 0, 0), (0, 5, 0), (2, 3, 4), (SIXTY, 2, SIXTY + 1)]:
            table = Table(near, far, total)
            self.assertEqual([table.near, table.far, table.total], [near, far, total])
            self.assertEqual(repr(table), f"Table({near}, {far}, {total})")
            for name in ("near", "far", "total"):
                self.assertRaises(AttributeError, setattr, table, name, 1)

    def test_equal(self):
        for one, other in itertools.product(itertools.product(range(1, 4), range(1, 4), range(2)), repeat=2):
            self.assertIs(Table(*one) == Table(*other), one == other)
            self.assertIs(Table(*one) != Table(*other), one != other)
        self.assertTrue(Table(SIXTY, SIXTY, 5) == Table(SIXTY, SIXTY, 5))

    def test_values_of_other_kinds(self):
        table = Table(2, 3, 4)
        for value in strange_values() + own_things() + [(2, 3, 4), "Table(2, 3, 4)", 4]:
            self.assertIs(table == value, False)
            self.assertIs(value == table, False)

    def test_contains_any_value(self):
        table = Table(2, 2, 4)
        for value in strange_values() + own_things() + [0, [0, 0], (0,), (0, 0, 0), ((0, 0), 0), (0, True), (False, 0),
                                                        (0, None), ("0", 0), (0, -1), (-1, 0), (2, 0), (0, 2), {0: 0},
                                                        (Table(1, 1, 1), 0), ([], {})]:
            self.assertIs(value in table, False, value)
            self.assertIs(value in Table(0, 0, 0), False)
        for value in itertools.product(range(2), repeat=2):
            self.assertIs(value in table, True)


class Refused(Checks, unittest.TestCase):
    table = Table(4, 6, 10)

    def test_sizes(self):
        for value in strange_values() + own_things():
            self.refused(InvalidCount, value, Table, value, "far", "total")
            self.refused(InvalidCount, value, Table, 2, value, "total")
            self.refused(InvalidCount, value, Table, total=0, far=value, near=1)
            self.refused(InvalidCount, value, Table, total=0, far=-1, near=value)

    def test_totals(self):
        for value in strange_values() + own_things():
            self.refused(InvalidTotal, value, Table, 2, 3, value)
            self.refused(InvalidTotal, value, Table, near=2, total=value, far=3)
        for near, far in itertools.product((0, 1, 2, 5, SIXTY), repeat=2):
            for value in (near * far + 1, near * far + SIXTY):
                self.refused(InvalidTotal, value, Table, near, far, value)

    def test_numbers(self):
        for value in strange_values() + own_things() + [10, 11, 24, SIXTY]:
            self.refused(InvalidPair, value, self.table, value)
            self.refused(InvalidPair, value, self.table, number=value)
        for table in (Table(0, 0, 0), Table(3, 3, 0)):
            self.refused(InvalidPair, 0, table, 0)

    def test_rows_of_pairs(self):
        for value in strange_values() + own_things() + [6, SIXTY]:
            self.refused(InvalidRow, value, self.table.number_of, value, 9)
            self.refused(InvalidRow, value, self.table.number_of, 3, value)
            self.refused(InvalidRow, value, self.table.number_of, far=-1, near=value)
        self.refused(InvalidRow, 4, self.table.number_of, 4, 4)
        self.refused(InvalidRow, 0, Table(0, 3, 0).number_of, 0, 7)
        self.refused(InvalidRow, 0, Table(3, 0, 0).number_of, 0, 0)

    def calls(self):
        """Each method with an end and a row, and what else it is passed."""
        return [(self.table.degree, ()), (self.table.partner, ("place",)), (self.partners, ())]

    def partners(self, end, row):
        return next(self.table.each_partner(end, row))

    def test_ends(self):
        for call, rest in self.calls():
            for value in strange_values() + own_things() + ["Near", 0, ["far"]]:
                if value != "near":
                    self.refused(InvalidEnd, value, call, value, -1, *rest)

    def test_rows(self):
        for call, rest in self.calls():
            for value in strange_values() + own_things() + [6, SIXTY]:
                self.refused(InvalidRow, value, call, "near", value, *rest)
                self.refused(InvalidRow, value, call, "far", value, *rest)
            self.refused(InvalidRow, 4, call, "near", 4, *rest)
            self.assertIsNotNone(call("far", 4, *[0 for _ in rest]))
        self.refused(InvalidRow, 7, self.table.degree, row=7, end="far")
        self.refused(InvalidRow, 7, self.table.partner, row=7, end="far", place=-1)

    def test_places(self):
        for value in strange_values() + own_things() + [3, SIXTY]:
            self.refused(InvalidPair, value, self.table.partner, "near", 1, value)
            self.refused(InvalidPair, value, self.table.partner, place=value, end="far", row=0)
        self.refused(InvalidPair, 2, self.table.partner, "near", 2, 2)
        self.refused(InvalidPair, 2, self.table.partner, "far", 0, 2)
        self.refused(InvalidPair, 1, self.table.partner, "far", 4, 1)
        self.refused(InvalidPair, 0, Table(1, 1, 0).partner, "far", 0, 0)

    def test_each_partner_is_a_generator(self):
        partners = self.table.each_partner("near", 0)
        self.assertIs(iter(partners), partners)
        self.assertEqual([next(partners), next(partners), next(partners, None), next(partners, None)], [0, 1, 2, None])


if __name__ == "__main__":
    unittest.main()
