"""Points 3, 23 and 24: tags."""

import unittest
from copy import deepcopy
from itertools import permutations, product

from draws import all_lots, drawn, parts
from veilcount.coins import RunCoins, StageCoins, flat
from veilcount.errors import BadCoins, BadLots, BadOrder, BadPrime, BadValue
from veilcount.lots import is_inside
from veilcount.perms import moved
from veilcount.runs import RunRecord, run, whole_order
from veilcount.swaps import swapped
from veilcount.tags import (disturbed, failing_rows, keys_that_pass, opened_rows, orders_of, passes, run_tagged,
                            swapped_tagged, tagged_coins, triple, with_orders)
from veilcount.views import view

# A prime, a number of mixers, a family and pairs of votes and keys.
RUNS = [
    (2, 1, [[]], [(1, 0), (0, 1), (1, 1)]),
    (5, 2, [[0], []], [(4, 3), (4, 3), (4, 0), (1, 3)]),
    (7, 3, [[0], [1], [2]], [(3, 2), (6, 2), (3, 5)]),
    (7, 3, [[1], [0]], [(3, 3), (3, 4), (3, 5)]),
    (11, 4, [[2], [0, 1], [1, 3]], [(10, 10), (0, 10), (0, 0)]),
    (7, 3, [[0], [1]], [(0, 6)]),
    (7, 3, [[0], [1]], []),
    (7, 3, [], [(1, 2), (3, 4)]),
]


def three_coins(prime, mixers, family, rows, seed=0):
    """Coins for three runs, with orders of their own."""
    return [drawn(prime, mixers, family, rows, seed + place) for place in range(3)]


def tagged_runs():
    for seed, (prime, mixers, family, given) in enumerate(RUNS):
        rows = [triple(prime, vote, key) for vote, key in given]
        yield prime, mixers, family, rows, three_coins(prime, mixers, family, rows, seed)


class RowsTest(unittest.TestCase):

    def test_triple(self):
        self.assertEqual(triple(7, 3, 4), (3, 4, 5))
        self.assertEqual(triple(7, 0, 4), (0, 4, 0))
        self.assertEqual(triple(2, 1, 1), (1, 1, 1))
        self.assertEqual(triple(999983, 999982, 999982), (999982, 999982, 1))
        self.assertIsInstance(triple(7, 3, 4), tuple)

    def test_the_product_is_a_value(self):
        self.assertEqual(triple(7, -3, 4)[2], 2)
        self.assertEqual(triple(7, 10, 11)[2], 5)

    def test_passes(self):
        self.assertIs(passes(7, (3, 4, 5)), True)
        self.assertIs(passes(7, (0, 0, 0)), True)
        self.assertIs(passes(7, (3, 4, 6)), False)
        self.assertIs(passes(7, (3, 3, 5)), False)
        self.assertIs(passes(7, (2, 4, 5)), False)
        self.assertIs(passes(7, (0, 0, 1)), False)

    def test_a_row_passes_exactly_with_the_product(self):
        for vote, key, number in product(range(5), repeat=3):
            self.assertEqual(passes(5, (vote, key, number)), (vote, key, number) == triple(5, vote, key))

    def test_numbers_below_0_and_beyond_the_prime(self):
        for more, other, last in product((-70, -7, 0, 7, 7 * 10 ** 30), repeat=3):
            self.assertIs(passes(7, (3 + more, 4 + other, 5 + last)), True)
            self.assertIs(passes(7, (3 + more, 4 + other, 4 + last)), False)

    def test_disturbed(self):
        self.assertEqual(disturbed(7, (3, 4, 5), (0, 0, 0)), (3, 4, 5))
        self.assertEqual(disturbed(7, (3, 4, 5), (1, 3, 1)), (4, 0, 6))
        self.assertEqual(disturbed(7, (3, 4, 5), (-4, 700, -5 - 7 * 10 ** 30)), (6, 4, 0))
        self.assertEqual(disturbed(7, (10, -1, 0), (0, 0, -1)), (3, 6, 6))
        self.assertIsInstance(disturbed(7, [3, 4, 5], [0, 0, 0]), tuple)

    def test_failing_rows(self):
        self.assertEqual(failing_rows(7, []), [])
        self.assertEqual(failing_rows(7, [(3, 4, 5), (1, 1, 1)]), [])
        self.assertEqual(failing_rows(7, [(3, 4, 4), (3, 4, 5), (1, 1, 0), (0, 0, 0), (0, 6, 1)]), [0, 2, 4])


class KeysTest(unittest.TestCase):
    """Point 24."""

    def test_a_row_that_nobody_changed_passes(self):
        for prime in (2, 3, 7):
            for vote, key in product(range(prime), repeat=2):
                self.assertTrue(passes(prime, triple(prime, vote, key)))
                self.assertTrue(passes(prime, disturbed(prime, triple(prime, vote, key), (0, 0, 0))))

    def test_a_disturbed_row_passes_exactly_with_these_differences(self):
        for prime in (2, 3, 5):
            for vote, key in product(range(prime), repeat=2):
                for a, b, c in product(range(-prime, prime + 1), repeat=3):
                    row = disturbed(prime, triple(prime, vote, key), (a, b, c))
                    self.assertEqual(passes(prime, row), (key * a + vote * b + a * b - c) % prime == 0)

    def test_keys_that_pass_are_those_found_by_trying(self):
        for prime in (2, 3, 5):
            for vote in range(prime):
                for differences in product(range(-prime - 1, prime + 3), repeat=3):
                    due = [key for key in range(prime)
                           if passes(prime, disturbed(prime, triple(prime, vote, key), differences))]
                    self.assertEqual(keys_that_pass(prime, vote, differences), due)

    def test_one_key_at_most_if_the_vote_is_changed(self):
        for prime in (2, 3, 7):
            for vote, a, b, c in product(range(prime), range(1, prime), range(prime), range(prime)):
                passing = [key for key in range(prime)
                           if passes(prime, disturbed(prime, triple(prime, vote, key), (a, b, c)))]
                self.assertLessEqual(len(passing), 1)
                self.assertEqual(keys_that_pass(prime, vote, (a, b, c)), passing)

    def test_all_keys_or_none_if_the_vote_is_not_changed(self):
        self.assertEqual(keys_that_pass(5, 3, (0, 0, 0)), [0, 1, 2, 3, 4])
        self.assertEqual(keys_that_pass(5, 3, (0, 2, 1)), [0, 1, 2, 3, 4])
        self.assertEqual(keys_that_pass(5, 3, (-5, 2, 6)), [0, 1, 2, 3, 4])
        self.assertEqual(keys_that_pass(5, 3, (0, 2, 2)), [])
        self.assertEqual(keys_that_pass(5, 3, (10, 0, -1)), [])

    def test_by_hand(self):
        # A vote of one more needs one key more in the product, so the key is 4.
        self.assertEqual(keys_that_pass(7, 3, (1, 0, 4)), [4])
        # 2 * k + 3 * 1 + 2 * 1 is 0 modulo 7 for the key 1.
        self.assertEqual(keys_that_pass(7, 3, (2, 1, 0)), [1])

    def test_a_great_prime(self):
        for vote, differences in ((5, (1, 2, 3)), (999982, (-1, 10 ** 20, 7))):
            found = keys_that_pass(999983, vote, differences)
            self.assertEqual(len(found), 1)
            self.assertIn(found[0], range(999983))
            self.assertTrue(passes(999983, disturbed(999983, triple(999983, vote, found[0]), differences)))


class CoinsTest(unittest.TestCase):

    def test_orders_of(self):
        coins = RunCoins([[], []], [StageCoins([], [1, 0], [[[], []]]), StageCoins([], [0, 1], [[[], []]])])
        self.assertEqual(orders_of(coins), [[1, 0], [0, 1]])
        self.assertEqual(orders_of(RunCoins([[]], [])), [])

    def test_with_orders(self):
        for prime, mixers, family, rows, coins in tagged_runs():
            orders = orders_of(coins[1])
            found = with_orders(coins[0], orders)
            self.assertIsInstance(found, RunCoins)
            self.assertEqual(orders_of(found), orders)
            self.assertEqual(found.votes, coins[0].votes)
            self.assertEqual([(stage.gather, stage.spread) for stage in found.stages],
                             [(stage.gather, stage.spread) for stage in coins[0].stages])

    def test_tagged_coins(self):
        for prime, mixers, family, rows, coins in tagged_runs():
            found = tagged_coins(coins)
            self.assertEqual(len(found), 3)
            self.assertEqual(parts(found[0]), parts(coins[0]))
            for ready, given in zip(found, coins):
                self.assertEqual(orders_of(ready), orders_of(coins[0]))
                self.assertEqual(parts(with_orders(ready, orders_of(given))), parts(given))

    def test_the_three_coins_have_orders_of_their_own(self):
        # Otherwise the test above would say nothing.
        self.assertTrue(any(orders_of(coins[0]) != orders_of(coins[1]) for _, _, _, _, coins in tagged_runs()))


class RunTest(unittest.TestCase):
    """Point 23."""

    def test_three_runs_with_the_orders_of_the_first_coins(self):
        for prime, mixers, family, rows, coins in tagged_runs():
            records = run_tagged(prime, mixers, family, rows, coins)
            self.assertIsInstance(records, list)
            self.assertEqual(len(records), 3)
            for place, record in enumerate(records):
                self.assertIsInstance(record, RunRecord)
                its_coins = with_orders(coins[place], orders_of(coins[0]))
                due = run(prime, mixers, family, [row[place] for row in rows], its_coins)
                self.assertEqual(record.opened, due.opened)
                self.assertEqual(view(record, list(range(mixers))), view(due, list(range(mixers))))

    def test_the_opened_rows_are_the_rows_in_one_order(self):
        for prime, mixers, family, rows, coins in tagged_runs():
            records = run_tagged(prime, mixers, family, rows, coins)
            found = opened_rows(records)
            self.assertEqual(found, moved(rows, whole_order(records[0])))
            self.assertTrue(all(isinstance(row, tuple) for row in found))
            self.assertEqual(sorted(found), sorted(rows))
            self.assertEqual(failing_rows(prime, found), [])

    def test_a_row_that_does_not_pass(self):
        prime, mixers, family = 7, 3, [[0], [1]]
        rows = [(3, 4, 5), (3, 4, 6), (1, 1, 1)]
        records = run_tagged(prime, mixers, family, rows, three_coins(prime, mixers, family, rows))
        failing = failing_rows(prime, opened_rows(records))
        self.assertEqual([opened_rows(records)[row] for row in failing], [(3, 4, 6)])

    def test_opened_rows(self):
        records = [RunRecord(7, 1, [], []) for _ in range(3)]
        self.assertEqual(opened_rows(records), [])
        for record, opened in zip(records, ([1, 2], [3, 4], [5, 6])):
            record.opened = opened
        self.assertEqual(opened_rows(records), [(1, 3, 5), (2, 4, 6)])

    def test_what_run_raises(self):
        rows = [(3, 4, 5), (1, 1, 1)]
        coins = three_coins(7, 3, [[0]], rows)
        self.assertRaises(BadPrime, run_tagged, 8, 3, [[0]], rows, coins)
        self.assertRaises(BadLots, run_tagged, 7, 3, [[0, 1, 2]], rows, coins)
        for place in range(3):
            row = [1, 1, 1]
            row[place] = 7
            with self.assertRaises(BadValue) as caught:
                run_tagged(7, 3, [[0]], [(3, 4, 5), tuple(row)], coins)
            self.assertEqual(caught.exception.value, 7)
        for place in range(3):
            for stages in ([], [0, 0]):
                wrong = three_coins(7, 3, [[0]], rows)
                wrong[place].stages = [wrong[place].stages[at] for at in stages]
                self.assertRaises(BadCoins, run_tagged, 7, 3, [[0]], rows, wrong)
            wrong = three_coins(7, 3, [[0]], rows)
            wrong[place].votes[0].pop()
            self.assertRaises(BadCoins, run_tagged, 7, 3, [[0]], rows, wrong)


class OtherRowsTest(unittest.TestCase):

    def swaps(self):
        for prime, mixers, family, rows, coins in tagged_runs():
            for lot in all_lots(mixers):
                if is_inside(lot, family):
                    for others in sorted(set(permutations(rows))):
                        found = swapped_tagged(prime, mixers, family, lot, rows, list(others), coins)
                        yield prime, mixers, family, lot, rows, list(others), coins, found

    def test_each_run_shows_the_lot_the_same(self):
        for prime, mixers, family, lot, rows, others, coins, found in self.swaps():
            self.assertEqual(len(found), 3)
            before = run_tagged(prime, mixers, family, rows, coins)
            behind = run_tagged(prime, mixers, family, others, found)
            for one, other in zip(before, behind):
                self.assertEqual(view(other, lot), view(one, lot))
            self.assertEqual(opened_rows(behind), opened_rows(before))

    def test_the_three_other_coins_have_the_same_orders(self):
        for _, _, _, _, _, _, _, found in self.swaps():
            for coins in found:
                self.assertIsInstance(coins, RunCoins)
                self.assertEqual(orders_of(coins), orders_of(found[0]))

    def test_by_one_matching_of_whole_rows(self):
        # The votes alone would match in another way: both are 3.
        rows, others = [(3, 4, 5), (3, 2, 6), (1, 1, 1)], [(3, 2, 6), (1, 1, 1), (3, 4, 5)]
        coins = three_coins(7, 3, [[1], [0]], rows)
        for lot in ([], [0], [1]):
            found = swapped_tagged(7, 3, [[1], [0]], lot, rows, others, coins)
            ready = tagged_coins(coins)
            for place in range(3):
                due = swapped(7, 3, [[1], [0]], lot, [row[place] for row in rows], [row[place] for row in others],
                              ready[place], [2, 0, 1])
                self.assertEqual(parts(found[place]), parts(due))
        alone = swapped(7, 3, [[1], [0]], [], [3, 3, 1], [3, 1, 3], coins[0])
        self.assertNotEqual(orders_of(alone), orders_of(swapped_tagged(7, 3, [[1], [0]], [], rows, others, coins)[0]))

    def test_equal_rows_keep_their_order(self):
        rows, others = [(1, 1, 1), (3, 4, 5), (1, 1, 1)], [(3, 4, 5), (1, 1, 1), (1, 1, 1)]
        coins = [RunCoins([[]] * 3, [StageCoins([], [0, 1, 2], [[[]] * 3])]) for _ in range(3)]
        self.assertEqual(orders_of(swapped_tagged(7, 1, [[]], [], rows, others, coins)[2]), [[1, 0, 2]])

    def test_rows_may_be_lists(self):
        rows, others = [(3, 4, 5), (3, 2, 6)], [(3, 2, 6), (3, 4, 5)]
        coins = three_coins(7, 3, [[0]], rows)
        due = [parts(one) for one in swapped_tagged(7, 3, [[0]], [0], rows, others, coins)]
        rows_as_lists, others_as_lists = [list(row) for row in rows], [list(row) for row in others]
        for one, other in ((rows_as_lists, others_as_lists), (rows, others_as_lists), (rows_as_lists, others)):
            found = swapped_tagged(7, 3, [[0]], [0], one, other, coins)
            self.assertEqual([parts(one) for one in found], due)

    def test_made_back_they_are_the_first_coins(self):
        for prime, mixers, family, lot, rows, others, coins, found in self.swaps():
            back = swapped_tagged(prime, mixers, family, lot, others, rows, found)
            self.assertEqual([parts(one) for one in back], [parts(one) for one in tagged_coins(coins)])

    def test_errors(self):
        rows = [(3, 4, 5), (3, 2, 6)]
        coins = three_coins(7, 3, [[0]], rows)
        with self.assertRaises(BadLots) as caught:
            swapped_tagged(7, 3, [[0]], [1], rows, rows, coins)
        self.assertEqual((caught.exception.first, caught.exception.second), (None, None))
        self.assertRaises(BadLots, swapped_tagged, 7, 3, [[0]], [1], rows, [], coins)
        # The columns are there in another order, but the rows are not.
        for others in ([(3, 2, 5), (3, 4, 6)], [(3, 4, 5)], [(3, 4, 5), (3, 4, 5)], [], rows + rows):
            self.assertRaises(BadOrder, swapped_tagged, 7, 3, [[0]], [0], rows, others, coins)
        self.assertRaises(BadPrime, swapped_tagged, 8, 3, [[0]], [0], rows, rows, coins)
        self.assertRaises(BadValue, swapped_tagged, 5, 3, [[0]], [0], rows, rows, coins)
        coins[2].votes[0].pop()
        self.assertRaises(BadCoins, swapped_tagged, 7, 3, [[0]], [0], rows, rows, coins)


class CopiesTest(unittest.TestCase):
    """Point 3."""

    def spoil(self, coins):
        for stage in coins.stages:
            for found in [stage.gather, stage.order, stage.spread] + stage.gather + stage.spread:
                found.append(9)
        for found in [coins.votes, coins.stages] + coins.votes:
            found.append(9)

    def test_what_is_passed_in_stays(self):
        for prime, mixers, family, rows, coins in tagged_runs():
            before = [parts(one) for one in coins], deepcopy((family, rows))
            run_tagged(prime, mixers, family, rows, coins)
            for one in tagged_coins(coins):
                self.spoil(one)
            orders = orders_of(coins[0])
            self.spoil(with_orders(coins[1], orders))
            self.assertEqual(orders, orders_of(coins[0]))
            for order in orders:
                order.append(9)
            if family:
                for one in swapped_tagged(prime, mixers, family, [], rows, rows[::-1], coins):
                    self.spoil(one)
            self.assertEqual(([parts(one) for one in coins], (family, rows)), before)

    def test_rows_stay(self):
        row, differences, rows = [3, 4, 5], [1, 1, 1], [(3, 4, 4)]
        passes(7, row)
        disturbed(7, row, differences)
        keys_that_pass(7, 3, differences)
        failing_rows(7, rows)
        self.assertEqual((row, differences, rows), ([3, 4, 5], [1, 1, 1], [(3, 4, 4)]))

    def test_flat_of_tagged_coins(self):
        # The three are coins of a run, as coins_of makes them.
        for _, _, _, _, coins in tagged_runs():
            self.assertEqual(len({len(flat(one)) for one in tagged_coins(coins)}), 1)


if __name__ == "__main__":
    unittest.main()
