"""Points 3, 5 and 12: pieces, the first table, the values of rows."""

import unittest
from copy import deepcopy
from itertools import product

from veilcount.shares import changed_table, column, fresh_table, join, split, values_of


class SplitTest(unittest.TestCase):

    def test_example_of_the_document(self):
        self.assertEqual(split(7, 3, [5, 6]), [5, 6, 6])

    def test_one_receiver_has_the_value(self):
        self.assertEqual(split(7, 3, []), [3])
        self.assertEqual(split(7, 0, []), [0])

    def test_the_last_receiver_has_the_piece_without_a_coin(self):
        self.assertEqual(split(5, 4, [1]), [1, 3])
        self.assertEqual(split(5, 1, [4]), [4, 2])

    def test_coins_below_0_and_beyond_the_prime(self):
        self.assertEqual(split(7, 3, [-2, 13]), [5, 6, 6])
        self.assertEqual(split(7, 3, [-7 * 10 ** 30, 7]), [0, 0, 3])

    def test_join_gives_the_value(self):
        for value, first, second in product(range(5), range(-6, 7, 3), range(-1, 12, 4)):
            pieces = split(5, value, [first, second])
            self.assertEqual(pieces[:2], [first % 5, second % 5])
            self.assertIn(pieces[2], range(5))
            self.assertEqual(join(5, pieces), value)

    def test_join(self):
        self.assertEqual(join(7, []), 0)
        self.assertEqual(join(7, [5, 6, 6]), 3)
        self.assertEqual(join(7, [-1, -1]), 5)

    def test_point_3(self):
        coins = [9, -2]
        pieces = split(7, 3, coins)
        join(7, pieces)
        pieces.append(0)
        self.assertEqual(coins, [9, -2])


class TableTest(unittest.TestCase):

    def test_fresh_table(self):
        self.assertEqual(fresh_table(7, [3, 0, 6], [[5, 6], [0, 0], [8, -1]]), [[5, 6, 6], [0, 0, 0], [1, 6, 6]])

    def test_a_table_without_rows(self):
        self.assertEqual(fresh_table(7, [], []), [])
        self.assertEqual(values_of(7, []), [])
        self.assertEqual(column([], 1), [])
        self.assertEqual(changed_table(7, [], 0, []), [])

    def test_one_mixer(self):
        self.assertEqual(fresh_table(7, [3, 5], [[], []]), [[3], [5]])
        self.assertEqual(values_of(7, [[3], [5]]), [3, 5])

    def test_values_of(self):
        self.assertEqual(values_of(7, [[5, 6, 6], [0, 0, 0], [1, 1, 5]]), [3, 0, 0])
        self.assertEqual(values_of(7, [[-1, 20]]), [5])

    def test_the_values_of_the_first_table_are_the_votes(self):
        votes = [0, 1, 2, 3, 4]
        coins = [[vote * 3 - 4, vote * vote] for vote in votes]
        self.assertEqual(values_of(5, fresh_table(5, votes, coins)), votes)

    def test_column(self):
        table = [[5, 6, 6], [0, 1, 2]]
        self.assertEqual(column(table, 0), [5, 0])
        self.assertEqual(column(table, 2), [6, 2])

    def test_changed_table_changes_one_mixer_only(self):
        table = [[5, 6, 6], [0, 1, 2], [3, 3, 3]]
        self.assertEqual(changed_table(7, table, 1, [1, -2, 0]), [[5, 0, 6], [0, 6, 2], [3, 3, 3]])
        self.assertEqual(changed_table(7, table, 0, [700, 701, -1]), [[5, 6, 6], [1, 1, 2], [2, 3, 3]])
        self.assertEqual(changed_table(7, table, 2, [1, 5, 4]), [[5, 6, 0], [0, 1, 0], [3, 3, 0]])

    def test_point_3(self):
        votes, coins, table, differences = [3, 4], [[9], [-1]], [[1, 2], [3, 4]], [5, 0]
        before = deepcopy((votes, coins, table, differences))
        fresh_table(7, votes, coins)[0].append(9)
        values_of(7, table).append(9)
        column(table, 0).append(9)
        changed = changed_table(7, table, 0, differences)
        self.assertEqual((votes, coins, table, differences), before)
        changed[0][0] = changed[1][1] = 99
        changed.append([0, 0])
        self.assertEqual((votes, coins, table, differences), before)


if __name__ == "__main__":
    unittest.main()
