"""Points 3, 15 and 16: coins."""

import unittest
from copy import deepcopy

from draws import numbers_from, parts
from veilcount.coins import RunCoins, StageCoins, coins_of, flat, size, stage_size, twin
from veilcount.errors import BadCoins, BadOrder

# Mixers, a family and a number of rows.
SETTINGS = [(1, [], 0), (1, [], 3), (1, [[]], 0), (1, [[], []], 4), (2, [[]], 2), (2, [[0], [0]], 3),
            (3, [[0], [1], [2]], 2), (3, [[0, 2], []], 0), (3, [[0, 2]], 4), (4, [[0, 1], [], [1, 3]], 3),
            (5, [[0, 1], [2, 3], [1, 4]], 5)]


def lists_in(thing):
    """All lists in lists, itself included."""
    return [thing] + [found for part in thing if isinstance(part, list) for found in lists_in(part)]


def lists_of(coins):
    found = lists_in(coins.votes) + [coins.stages]
    for stage in coins.stages:
        found += lists_in(stage.gather) + lists_in(stage.order) + lists_in(stage.spread)
    return found


class SizesTest(unittest.TestCase):

    def test_stage_size(self):
        # 1 mixer gathers 1 coin a row, 2 holders spread 2 coins a row.
        self.assertEqual(stage_size(3, [0], 2), 1 * 2 * 1 + 1 + 2 * 2 * 2)
        # 2 mixers gather 2 coins a row, 3 holders spread 4 coins a row.
        self.assertEqual(stage_size(5, [1, 4], 3), 2 * 3 * 2 + 1 + 3 * 3 * 4)
        # One holder: nothing is drawn for the gathering.
        self.assertEqual(stage_size(3, [0, 2], 4), 0 + 1 + 4 * 2)
        # The empty lot: nobody gathers.
        self.assertEqual(stage_size(3, [], 2), 0 + 1 + 3 * 2 * 2)

    def test_without_rows_and_with_one_mixer(self):
        for lot in ([], [0], [0, 2]):
            self.assertEqual(stage_size(3, lot, 0), 1)
        self.assertEqual(stage_size(1, [], 5), 1)
        self.assertEqual(size(3, [[0], [1]], 0), 2)
        self.assertEqual(size(1, [[], []], 5), 2)
        self.assertEqual(size(1, [], 5), 0)

    def test_size(self):
        self.assertEqual(size(3, [], 4), 8)
        self.assertEqual(size(3, [[0]], 2), 4 + 11)
        self.assertEqual(size(3, [[0], [], [0, 2]], 2), 4 + 11 + 13 + 5)
        self.assertEqual(size(4, [], 0), 0)

    def test_the_sizes_are_those_of_the_coins(self):
        for mixers, family, rows in SETTINGS:
            due = size(mixers, family, rows)
            coins = coins_of([0] * due, prime=7, mixers=mixers, family=family, rows=rows)
            self.assertEqual(len(flat(coins)), due)


class ReadingTest(unittest.TestCase):

    def test_numbers_are_taken_in_the_order_of_the_document(self):
        # Prime 101, so all numbers stay as they are.
        numbers = [1, 2, 3, 4,
                   # The stage of [0]: the gathering of mixer 0, the order, the spreading of 1 and 2.
                   5, 6, 1, 7, 8, 9, 10, 11, 12, 13, 14,
                   # The stage of [1, 2]: mixers 1 and 2 split among one holder, the order, the spreading of 0.
                   0, 15, 16, 17, 18]
        coins = coins_of(numbers, prime=101, mixers=3, family=[[0], [1, 2]], rows=2)
        self.assertEqual(coins.votes, [[1, 2], [3, 4]])
        self.assertEqual(len(coins.stages), 2)
        self.assertEqual(coins.stages[0].gather, [[[5], [6]]])
        self.assertEqual(coins.stages[0].order, [1, 0])
        self.assertEqual(coins.stages[0].spread, [[[7, 8], [9, 10]], [[11, 12], [13, 14]]])
        self.assertEqual(coins.stages[1].gather, [[[], []], [[], []]])
        self.assertEqual(coins.stages[1].order, [0, 1])
        self.assertEqual(coins.stages[1].spread, [[[15, 16], [17, 18]]])
        self.assertEqual(flat(coins), numbers)

    def test_mixer_by_mixer_and_row_by_row(self):
        # Two mixers gather two coins for each of two rows.
        numbers = list(range(8)) + list(range(10, 18)) + [0] + list(range(20, 44))
        coins = coins_of(numbers, prime=101, mixers=5, family=[[1, 3]], rows=2)
        self.assertEqual(coins.votes, [[0, 1, 2, 3], [4, 5, 6, 7]])
        self.assertEqual(coins.stages[0].gather, [[[10, 11], [12, 13]], [[14, 15], [16, 17]]])
        self.assertEqual(coins.stages[0].spread, [[[20, 21, 22, 23], [24, 25, 26, 27]],
                                                  [[28, 29, 30, 31], [32, 33, 34, 35]],
                                                  [[36, 37, 38, 39], [40, 41, 42, 43]]])

    def test_numbers_below_0_and_far_beyond_the_prime(self):
        numbers = [-1, 7, -7 * 10 ** 30 - 2, 10, 700, 8, -8]
        coins = coins_of(numbers, prime=7, mixers=2, family=[[0]], rows=3)
        self.assertEqual(coins.votes, [[6], [0], [5]])
        self.assertEqual(coins.stages[0].gather, [[[], [], []]])
        self.assertEqual(coins.stages[0].order, [2, 0, 1])
        self.assertEqual(coins.stages[0].spread, [[[0], [1], [6]]])
        self.assertEqual(flat(coins), [6, 0, 5, 4, 0, 1, 6])

    def test_an_order_from_a_number_modulo_the_number_of_orders(self):
        for number, order in ((0, [0, 1, 2]), (4, [2, 0, 1]), (5, [2, 1, 0]), (6, [0, 1, 2]), (10, [2, 0, 1]),
                              (-1, [2, 1, 0]), (-6, [0, 1, 2]), (6 * 10 ** 40 + 3, [1, 2, 0])):
            coins = coins_of([number], prime=5, mixers=1, family=[[]], rows=3)
            self.assertEqual(coins.stages[0].order, order)

    def test_an_order_of_more_orders_than_the_prime(self):
        # Not taken modulo the prime.
        coins = coins_of([23], prime=2, mixers=1, family=[[]], rows=4)
        self.assertEqual(coins.stages[0].order, [3, 2, 1, 0])
        self.assertEqual(flat(coins), [23])

    def test_no_rows(self):
        coins = coins_of([5, -3], prime=7, mixers=3, family=[[0], []], rows=0)
        self.assertEqual(parts(coins), ([], [([[]], [], [[], []]), ([], [], [[], [], []])]))
        self.assertEqual(flat(coins), [0, 0])

    def test_one_mixer_and_no_lots(self):
        coins = coins_of([], prime=7, mixers=1, family=[], rows=2)
        self.assertEqual(parts(coins), ([[], []], []))
        coins = coins_of([1], prime=7, mixers=1, family=[[]], rows=2)
        self.assertEqual(parts(coins), ([[], []], [([], [1, 0], [[[], []]])]))

    def test_too_few_and_too_many(self):
        for mixers, family, rows in SETTINGS:
            due = size(mixers, family, rows)
            for given in (due - 1, due + 1, 2 * due + 5):
                if given >= 0:
                    with self.assertRaises(BadCoins) as caught:
                        coins_of([1] * given, prime=7, mixers=mixers, family=family, rows=rows)
                    self.assertEqual((caught.exception.due, caught.exception.given), (due, given))

    def test_flat_and_back(self):
        for prime in (2, 7, 101):
            for seed, (mixers, family, rows) in enumerate(SETTINGS):
                numbers = numbers_from(seed, size(mixers, family, rows))
                coins = coins_of(numbers, prime=prime, mixers=mixers, family=family, rows=rows)
                found = flat(coins)
                self.assertEqual(len(found), len(numbers))
                again = coins_of(found, prime=prime, mixers=mixers, family=family, rows=rows)
                self.assertEqual(parts(again), parts(coins))

    def test_flat_has_the_numbers_modulo_the_prime(self):
        # With one row there is one order, so the numbers of orders (at 3 and 8) become 0.
        numbers = [7, -1, 20, 5, 3, 14, -15, 1, -9, 70, 71, 72, -73, 74, 10 ** 20]
        coins = coins_of(numbers, prime=7, mixers=3, family=[[0], []], rows=1)
        self.assertEqual(flat(coins), [0, 6, 6, 0, 3, 0, 6, 1, 0, 0, 1, 2, 4, 4, 10 ** 20 % 7])

    def test_flat_of_a_list_that_is_no_order(self):
        coins = coins_of([1, 1, 0], prime=7, mixers=2, family=[], rows=3)
        coins.stages.append(StageCoins([], [0, 0, 1], []))
        self.assertRaises(BadOrder, flat, coins)


class CopiesTest(unittest.TestCase):

    def test_fields(self):
        stage = StageCoins([[[1]]], [0], [[[2, 3]], [[4, 5]]])
        self.assertEqual((stage.gather, stage.order, stage.spread), ([[[1]]], [0], [[[2, 3]], [[4, 5]]]))
        coins = RunCoins([[6, 7]], [stage])
        self.assertEqual(parts(coins), ([[6, 7]], [([[[1]]], [0], [[[2, 3]], [[4, 5]]])]))
        self.assertIsInstance(coins.stages[0], StageCoins)

    def test_the_lists_of_numbers_are_copied(self):
        gather, order, spread, votes = [[[1], [2]]], [1, 0], [[[2, 3], [4, 5]]], [[6], [7]]
        stage = StageCoins(gather, order, spread)
        stages = [stage]
        coins = RunCoins(votes, stages)
        before = deepcopy((parts(coins), (stage.gather, stage.order, stage.spread)))
        for found in lists_in([gather, order, spread, votes]):
            found.append(99)
        stages.append(None)
        self.assertEqual((parts(coins), (stage.gather, stage.order, stage.spread)), before)
        for found in lists_in([stage.gather, stage.order, stage.spread]):
            found.append(99)
        self.assertEqual(parts(coins), before[0])

    def test_a_twin_shares_no_list(self):
        for mixers, family, rows in SETTINGS:
            numbers = numbers_from(3, size(mixers, family, rows))
            coins = coins_of(numbers, prime=7, mixers=mixers, family=family, rows=rows)
            other = twin(coins)
            self.assertIsInstance(other, RunCoins)
            self.assertEqual(parts(other), parts(coins))
            places = {id(found) for found in lists_of(coins)}
            self.assertFalse(any(id(found) in places for found in lists_of(other)))
            self.assertFalse(any(one is two for one in coins.stages for two in other.stages))

    def test_point_3(self):
        numbers = numbers_from(4, size(3, [[0], [1, 2]], 2))
        family = [[0], [1, 2]]
        before = deepcopy((numbers, family))
        coins = coins_of(numbers, prime=7, mixers=3, family=family, rows=2)
        held = deepcopy(parts(coins))
        flat(coins).append(9)
        size(3, family, 2)
        stage_size(3, family[1], 2)
        self.assertEqual(parts(coins), held)
        for found in lists_of(coins):
            found.append(9)
        self.assertEqual((numbers, family), before)


if __name__ == "__main__":
    unittest.main()
