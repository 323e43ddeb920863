"""The totals that a link can have, against all sets of pairs."""

import itertools
import unittest

from howmanyeach.errors import InvalidCount, InvalidMany
from howmanyeach.manys import Many
from howmanyeach.tables import Table, totals
from tests.helpers import SIXTY, SIXTY_MORE, Checks, own_things, some_manys, strange_values


def kinds_of_sets(near, far):
    """What there is to know of each set of pairs: the numbers of partners at both ends, and the total."""
    pairs = list(itertools.product(range(near), range(far)))
    found = set()
    for choice in itertools.product([False, True], repeat=len(pairs)):
        chosen = list(itertools.compress(pairs, choice))
        degrees = [frozenset(sum(pair[at] == row for pair in chosen) for row in range(size))
                   for at, size in ((0, near), (1, far))]
        found.add((*degrees, len(chosen)))
    return found


class ByTryingAll(unittest.TestCase):
    def test_small_sizes(self):
        for near, far in itertools.product(range(4), repeat=2):
            found = kinds_of_sets(near, far)
            for near_many, far_many in itertools.product(some_manys(), repeat=2):
                let = [total for near_degrees, far_degrees, total in found
                       if all(degree in near_many for degree in near_degrees)
                       and all(degree in far_many for degree in far_degrees)]
                got = totals(near, near_many, far, far_many)
                self.assertEqual(got, (min(let), max(let)) if let else None)
                if let:
                    self.assertEqual(sorted(set(let)), list(range(got[0], got[1] + 1)))

    def test_each_total_has_a_table(self):
        for near, far in itertools.product(range(6), repeat=2):
            for near_many, far_many in itertools.product(some_manys(), repeat=2):
                least, greatest = totals(near, near_many, far, far_many) or (1, 0)
                for total in range(least, greatest + 1):
                    table = Table(near, far, total)
                    self.assertTrue(all(table.degree("near", row) in near_many for row in range(near)))
                    self.assertTrue(all(table.degree("far", row) in far_many for row in range(far)))


class ByHand(unittest.TestCase):
    def test_short(self):
        self.assertEqual(totals(4, Many(1, 6), 6, Many.just(1)), (6, 6))
        self.assertEqual(totals(near=2, near_many=Many(1, 2), far=3, far_many=Many(0)), (2, 4))
        self.assertEqual(totals(far_many=Many(0), far=3, near_many=Many(1), near=2), (2, 6))
        self.assertEqual(totals(0, Many(3), 0, Many(5, 9)), (0, 0))
        self.assertIs(type(totals(4, Many(1, 6), 6, Many.just(1))), tuple)

    def test_without(self):
        for values in ((2, Many(3), 2, Many(0)), (2, Many(0), 2, Many(3)), (4, Many(2), 3, Many(0, 2)),
                       (3, Many(0, 2), 4, Many(2)), (1, Many(1), 0, Many(0)), (0, Many(0), 1, Many(1))):
            self.assertIsNone(totals(*values))

    def test_numbers_above_six(self):
        self.assertEqual(totals(3, Many(7, 9), 9, Many(0)), (21, 27))
        self.assertEqual(totals(10, Many(0, 8), 20, Many(3, 100)), (60, 80))

    def test_long(self):
        self.assertEqual(totals(SIXTY, Many(1, 6), SIXTY, Many.just(1)), (SIXTY, SIXTY))
        self.assertEqual(totals(SIXTY, Many(2, 6), 2 * SIXTY, Many(0, 4)), (2 * SIXTY, 6 * SIXTY))
        self.assertEqual(totals(SIXTY, Many(0), SIXTY_MORE, Many(5)), (5 * SIXTY_MORE, SIXTY * SIXTY_MORE))
        self.assertEqual(totals(10 ** 60, Many(10 ** 59), 10 ** 60, Many(0, 10 ** 59)), (10 ** 119, 10 ** 119))
        self.assertIsNone(totals(6 * SIXTY + 1, Many(1), SIXTY, Many(0, 6)))
        self.assertEqual(totals(6 * SIXTY, Many(1), SIXTY, Many(0, 6)), (6 * SIXTY, 6 * SIXTY))
        self.assertIsNone(totals(SIXTY, Many(SIXTY_MORE + 1), SIXTY_MORE, Many(0)))
        self.assertEqual(totals(1, Many(0), SIXTY, Many(1, 1)), (SIXTY, SIXTY))


class Refused(Checks, unittest.TestCase):
    def test_counts(self):
        for value in strange_values() + own_things():
            self.refused(InvalidCount, value, totals, value, "many", -1, "many")
            self.refused(InvalidCount, value, totals, 1, Many(0), value, "many")
            self.refused(InvalidCount, value, totals, far_many=1, far=-1, near_many=2, near=value)

    def test_manys(self):
        for value in strange_values() + own_things()[1:] + [0, 3]:
            self.refused(InvalidMany, value, totals, 1, value, -1, "many")
            self.refused(InvalidMany, value, totals, 1, Many(0), 1, value)
            self.refused(InvalidMany, value, totals, far_many=value, far=2, near_many=Many(7), near=5)


if __name__ == "__main__":
    unittest.main()
