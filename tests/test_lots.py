"""Points 3, 9, 10 and 11: lots, families, holders."""

import unittest
from copy import deepcopy

from draws import all_lots
from veilcount.errors import BadLots
from veilcount.lots import (checked_family, contains, cover, covering_pair, greatest, holders, is_inside, is_lot,
                            lots_of, stage_of)


class LotsTest(unittest.TestCase):

    def test_lots(self):
        for lot, mixers in (([], 1), ([], 5), ([0], 1), ([4], 5), ([0, 1], 2), ([0, 2, 4], 5), ([0, 1, 2], 3)):
            self.assertIs(is_lot(lot, mixers), True)

    def test_no_lots(self):
        # Not ascending, a mixer twice, below 0, beyond the mixers.
        for lot, mixers in (([1, 0], 3), ([0, 2, 1], 3), ([0, 0], 3), ([0, 1, 1], 3), ([-1], 3), ([-1, 0], 3), ([3], 3),
                            ([0, 3], 3), ([1], 1), ([0, 100], 5)):
            self.assertIs(is_lot(lot, mixers), False)

    def test_holders(self):
        self.assertEqual(holders([], 3), [0, 1, 2])
        self.assertEqual(holders([1], 3), [0, 2])
        self.assertEqual(holders([0, 2, 3], 5), [1, 4])
        self.assertEqual(holders([0, 1], 2), [])
        self.assertEqual(holders([2, 0], 3), [1])

    def test_cover(self):
        self.assertIs(cover([0, 1], [1, 2], 3), True)
        self.assertIs(cover([0, 1, 2], [], 3), True)
        self.assertIs(cover([], [0, 1, 2], 3), True)
        self.assertIs(cover([0], [0], 1), True)
        self.assertIs(cover([0, 1], [1], 3), False)
        self.assertIs(cover([], [], 1), False)
        self.assertIs(cover([0, 1, 2], [1, 2], 4), False)

    def test_covering_pair(self):
        self.assertIsNone(covering_pair([], 3))
        self.assertIsNone(covering_pair([[]], 1))
        self.assertIsNone(covering_pair([[0], [1], [2]], 3))
        self.assertEqual(covering_pair([[0], [1]], 2), (0, 1))
        self.assertEqual(covering_pair([[], [0], [0, 1], [2]], 3), (2, 3))

    def test_one_lot_alone(self):
        self.assertEqual(covering_pair([[0, 1]], 2), (0, 0))
        self.assertEqual(covering_pair([[1, 2], [0], [0, 1, 2]], 3), (0, 1))
        self.assertEqual(covering_pair([[1], [2], [0, 1, 2]], 3), (0, 2))
        self.assertEqual(covering_pair([[0, 1, 2], [0, 1, 2]], 3), (0, 0))

    def test_the_first_of_several_pairs(self):
        # By the place of the first lot, then by that of the second one.
        self.assertEqual(covering_pair([[0], [0, 1], [2], [1, 2]], 3), (0, 3))
        self.assertEqual(covering_pair([[0, 1], [0], [1, 2], [2]], 3), (0, 2))
        self.assertEqual(covering_pair([[1], [0, 2], [0], [1, 2]], 3), (0, 1))
        self.assertEqual(covering_pair([[2], [0, 1, 2], [0, 1]], 3), (0, 1))

    def test_checked_family(self):
        for family, mixers in (([], 1), ([[]], 1), ([[], []], 2), ([[0], [1], [2]], 3), ([[0, 1], [1, 2]], 4)):
            self.assertEqual(checked_family(family, mixers), family)

    def test_bad_families(self):
        cases = [([[1, 0]], 3, 0, None), ([[0], [3]], 3, 1, None), ([[0], [1, 1], [5]], 3, 1, None),
                 ([[0, 1, 2]], 3, 0, 0), ([[0], [0, 1], [1, 2]], 3, 0, 2), ([[2], [1], [0, 2]], 3, 1, 2),
                 # A list that is no lot is found before any pair.
                 ([[0, 1, 2], [0, 1], [2, 2]], 3, 2, None), ([[0], [1], [-1]], 2, 2, None)]
        for family, mixers, first, second in cases:
            with self.assertRaises(BadLots) as caught:
                checked_family(family, mixers)
            self.assertEqual((caught.exception.first, caught.exception.second), (first, second))

    def test_contains(self):
        self.assertIs(contains([0, 1, 3], [0, 3]), True)
        self.assertIs(contains([0, 1], []), True)
        self.assertIs(contains([], []), True)
        self.assertIs(contains([2], [2]), True)
        self.assertIs(contains([], [0]), False)
        self.assertIs(contains([0, 1], [0, 2]), False)
        self.assertIs(contains([0], [0, 1]), False)

    def test_stage_of(self):
        family = [[0], [1, 2], [0, 1, 2], [3]]
        self.assertEqual(stage_of([], family), 0)
        self.assertEqual(stage_of([0], family), 0)
        self.assertEqual(stage_of([2], family), 1)
        self.assertEqual(stage_of([0, 2], family), 2)
        self.assertEqual(stage_of([3], family), 3)
        self.assertIsNone(stage_of([0, 3], family))
        self.assertIsNone(stage_of([], []))

    def test_is_inside(self):
        self.assertIs(is_inside([2], [[0], [1, 2]]), True)
        self.assertIs(is_inside([0], [[0], [1, 2]]), True)
        self.assertIs(is_inside([0, 1], [[0], [1, 2]]), False)
        self.assertIs(is_inside([], []), False)

    def test_greatest(self):
        self.assertEqual(greatest([]), [])
        self.assertEqual(greatest([[]]), [[]])
        self.assertEqual(greatest([[], []]), [[]])
        self.assertEqual(greatest([[], [1]]), [[1]])
        self.assertEqual(greatest([[2], [0, 1], [0], [2]]), [[2], [0, 1]])
        self.assertEqual(greatest([[0], [0, 2], [1, 2], [0, 2], [2]]), [[0, 2], [1, 2]])

    def test_lots_of(self):
        self.assertEqual(lots_of(3, 0), [[]])
        self.assertEqual(lots_of(3, 3), [[0, 1, 2]])
        self.assertEqual(lots_of(3, 4), [])
        self.assertEqual(lots_of(0, 0), [[]])
        self.assertEqual(lots_of(4, 2), [[0, 1], [0, 2], [0, 3], [1, 2], [1, 3], [2, 3]])
        for mixers in range(1, 6):
            for size in range(mixers + 2):
                found = lots_of(mixers, size)
                self.assertEqual(found, sorted(lot for lot in all_lots(mixers) if len(lot) == size))

    def test_sizes_that_no_lot_has(self):
        for mixers in range(5):
            for size in (-1, -2, -10 ** 30, mixers + 1, mixers + 2, 10 ** 30):
                self.assertEqual(lots_of(mixers, size), [])

    def test_point_3(self):
        family = [[0], [1], [0, 1]]
        before = deepcopy(family)
        holders(family[2], 4).append(9)
        covering_pair(family, 4)
        for fresh in (checked_family(family, 4), greatest(family)):
            fresh[0].append(9)
            fresh[-1].append(9)
            fresh.append([])
        stage_of(family[1], family)
        self.assertEqual(family, before)


class FactTest(unittest.TestCase):
    """Point 11."""

    def check(self, family, mixers):
        for lot in family:
            keepers = holders(lot, mixers)
            self.assertEqual(keepers, [mixer for mixer in range(mixers) if mixer not in lot])
            for other in family:
                self.assertTrue(any(holder not in other for holder in keepers))

    def families(self, lots, mixers):
        """All families of these lots, each lot once at most."""
        found = [[]]
        for lot in lots:
            found += [family + [lot] for family in found if covering_pair(family + [lot], mixers) is None]
        return found

    def test_all_families_of_up_to_four_mixers(self):
        for mixers in range(1, 5):
            found = self.families(all_lots(mixers), mixers)
            for family in found:
                self.assertEqual(checked_family(family, mixers), family)
                self.check(family, mixers)
            # As many as there are families of sets in which any two sets meet.
            self.assertEqual(len(found), (2, 6, 40, 1376)[mixers - 1])

    def test_families_of_five_mixers(self):
        lots = all_lots(5)
        for one in lots:
            for other in lots:
                if covering_pair([one, other], 5) is None:
                    self.check([one, other], 5)
        for size in range(3):
            self.check(checked_family(lots_of(5, size), 5), 5)
        for start in range(len(lots)):
            family = []
            for lot in lots[start:] + lots[:start]:
                if covering_pair(family + [lot], 5) is None:
                    family.append(lot)
            self.check(checked_family(family, 5), 5)


if __name__ == "__main__":
    unittest.main()
