"""Points 1, 3, 12, 14, 17 and 60: runs."""

import unittest
from copy import deepcopy

from draws import drawn, parts, stage_fields
from veilcount.coins import RunCoins, StageCoins
from veilcount.errors import BadCoins, BadLots, BadOrder, BadPrime, BadValue
from veilcount.perms import chained, moved
from veilcount.runs import RunRecord, check_votes, last_table, run, whole_order
from veilcount.shares import fresh_table, values_of
from veilcount.stages import run_stage

# A prime, a number of mixers, a family and votes.
RUNS = [
    (2, 1, [], []),
    (2, 1, [[]], [1, 0, 1]),
    (2, 2, [[0], [0], []], [1, 1, 0, 0]),
    (3, 3, [], [2, 0, 1]),
    (7, 3, [[0], [1], [2]], [3, 6, 0, 3, 5]),
    (7, 3, [[0, 2], [0]], [6]),
    (7, 3, [[0], [1], [2]], []),
    (11, 4, [[], [0, 1], [0, 2], [1]], [10, 1, 1, 4, 0, 9]),
    (101, 5, [[0, 1], [2, 3], [1, 4], [0, 4]], [100, 50, 50, 0, 7]),
    (999983, 3, [[1]], [999982, 0, 123456]),
]


class RunTest(unittest.TestCase):

    def test_by_hand(self):
        # The stage is that of test_stages.
        stage = StageCoins([[[4], [6]]], [1, 0], [[[2, 3], [0, 6]], [[1, 1], [5, 4]]])
        record = run(7, 3, [[0]], [3, 6], RunCoins([[5, 6], [1, 2]], [stage]))
        self.assertIsInstance(record, RunRecord)
        self.assertEqual((record.prime, record.mixers, record.family), (7, 3, [[0]]))
        self.assertEqual(record.table, [[5, 6, 6], [1, 2, 3]])
        self.assertEqual(len(record.stages), 1)
        self.assertEqual(record.stages[0].table, [[3, 4, 6], [5, 3, 2]])
        self.assertEqual(record.opened, [6, 3])
        self.assertEqual(last_table(record), [[3, 4, 6], [5, 3, 2]])
        self.assertEqual(whole_order(record), [1, 0])

    def test_a_new_record(self):
        record = RunRecord(7, 2, [[0]], [[1, 2]])
        self.assertEqual((record.prime, record.mixers, record.family, record.table), (7, 2, [[0]], [[1, 2]]))
        self.assertEqual((record.stages, record.opened), ([], []))

    def test_point_12_the_first_table(self):
        for prime, mixers, family, votes in RUNS:
            coins = drawn(prime, mixers, family, votes)
            record = run(prime, mixers, family, votes, coins)
            self.assertEqual(record.table, fresh_table(prime, votes, coins.votes))
            self.assertEqual(values_of(prime, record.table), votes)
            for row in record.table:
                self.assertEqual(len(row), mixers)

    def test_point_14_each_stage_on_the_table_behind_the_stage_before(self):
        for prime, mixers, family, votes in RUNS:
            coins = drawn(prime, mixers, family, votes, seed=1)
            record = run(prime, mixers, family, votes, coins)
            self.assertEqual(len(record.stages), len(family))
            table = record.table
            for lot, stage, its_coins in zip(family, record.stages, coins.stages):
                keepers = [mixer for mixer in range(mixers) if mixer not in lot]
                self.assertEqual(stage.holders, keepers)
                due = run_stage(prime, mixers, table, keepers, its_coins)
                self.assertEqual(stage_fields(stage), stage_fields(due))
                table = stage.table
            self.assertEqual(last_table(record), table)
            self.assertEqual(record.opened, values_of(prime, table))

    def test_points_1_and_17_the_opened_values_are_the_votes_in_another_order(self):
        for prime, mixers, family, votes in RUNS:
            for seed in range(20):
                coins = drawn(prime, mixers, family, votes, seed)
                record = run(prime, mixers, family, votes, coins)
                order = list(range(len(votes)))
                for stage in coins.stages:
                    order = chained(order, stage.order)
                self.assertEqual(whole_order(record), order)
                self.assertEqual(record.opened, moved(votes, order))
                self.assertEqual(sorted(record.opened), sorted(votes))

    def test_orders_are_chained_the_first_one_first(self):
        coins = RunCoins([[], [], []], [StageCoins([], [2, 0, 1], [[[], [], []]]),
                                        StageCoins([], [1, 0, 2], [[[], [], []]])])
        record = run(7, 1, [[], []], [4, 5, 6], coins)
        self.assertEqual(whole_order(record), [0, 2, 1])
        self.assertEqual(record.opened, [4, 6, 5])

    def test_a_run_without_lots(self):
        record = run(7, 3, [], [3, 6], RunCoins([[5, 6], [1, 2]], []))
        self.assertEqual((record.family, record.stages), ([], []))
        self.assertEqual(last_table(record), [[5, 6, 6], [1, 2, 3]])
        self.assertEqual(record.opened, [3, 6])
        self.assertEqual(whole_order(record), [0, 1])

    def test_a_run_without_votes(self):
        record = run(7, 3, [[0], [1]], [], drawn(7, 3, [[0], [1]], []))
        self.assertEqual((record.table, record.opened, last_table(record), whole_order(record)), ([], [], [], []))
        self.assertEqual([stage.table for stage in record.stages], [[], []])

    def test_one_mixer(self):
        record = run(7, 1, [[]], [3, 6], RunCoins([[], []], [StageCoins([], [1, 0], [[[], []]])]))
        self.assertEqual((record.table, last_table(record), record.opened), ([[3], [6]], [[6], [3]], [6, 3]))

    def test_coins_of_any_size(self):
        # Coins that are made by hand need not be reduced.
        coins = drawn(7, 3, [[0]], [3, 6])
        record = run(7, 3, [[0]], [3, 6], coins)
        coins.votes[0][0] += 7 * 10 ** 30
        coins.stages[0].gather[0][1][0] -= 7 * 10 ** 30
        coins.stages[0].spread[1][0][1] -= 7
        again = run(7, 3, [[0]], [3, 6], coins)
        self.assertEqual(again.table, record.table)
        self.assertEqual(stage_fields(again.stages[0]), stage_fields(record.stages[0]))


class ErrorsTest(unittest.TestCase):

    def test_bad_prime(self):
        for number in (-7, 0, 1, 4, 9):
            with self.assertRaises(BadPrime) as caught:
                run(number, 3, [], [], RunCoins([], []))
            self.assertEqual(caught.exception.number, number)

    def test_bad_lots(self):
        for family, first, second in (([[0], [1, 0]], 1, None), ([[3]], 0, None), ([[0], [0, 1], [2]], 1, 2),
                                      ([[0, 1, 2]], 0, 0)):
            with self.assertRaises(BadLots) as caught:
                run(7, 3, family, [], RunCoins([], []))
            self.assertEqual((caught.exception.first, caught.exception.second), (first, second))

    def test_bad_value(self):
        for votes, value in (([-1], -1), ([7], 7), ([0, 6, 8, -1], 8), ([3, -2, 9], -2), ([10 ** 5000], 10 ** 5000)):
            with self.assertRaises(BadValue) as caught:
                run(7, 2, [], votes, RunCoins([[0]] * len(votes), []))
            self.assertEqual(caught.exception.value, value)
            with self.assertRaises(BadValue) as caught:
                check_votes(7, votes)
            self.assertEqual(caught.exception.value, value)

    def test_check_votes(self):
        for prime, votes in ((2, []), (2, [0, 1]), (7, [0, 6, 6, 3])):
            self.assertIsNone(check_votes(prime, votes))

    def assert_bad_coins(self, coins, due, given):
        with self.assertRaises(BadCoins) as caught:
            run(7, 3, [[0]], [3, 6], coins)
        self.assertEqual((caught.exception.due, caught.exception.given), (due, given))

    def test_bad_coins(self):
        changes = [
            (lambda coins: coins.votes[1].append(0), 16),
            (lambda coins: coins.votes[0].pop(), 14),
            (lambda coins: coins.votes.append([0, 0]), 17),
            (lambda coins: coins.votes.pop(), 13),
            (lambda coins: coins.stages.pop(), 4),
            (lambda coins: coins.stages.append(StageCoins([], [0, 1], [])), 16),
            (lambda coins: coins.stages[0].gather[0][0].append(0), 16),
            (lambda coins: coins.stages[0].gather[0].pop(), 14),
            (lambda coins: coins.stages[0].gather.append([[0], [0]]), 17),
            (lambda coins: coins.stages[0].spread[1][0].pop(), 14),
            (lambda coins: coins.stages[0].spread[1].append([0, 0]), 17),
            (lambda coins: coins.stages[0].spread.pop(), 11),
        ]
        for change, given in changes:
            coins = drawn(7, 3, [[0]], [3, 6])
            change(coins)
            self.assert_bad_coins(coins, 15, given)

    def test_as_many_coins_as_needed_but_not_in_their_places(self):
        coins = drawn(7, 3, [[0]], [3, 6])
        coins.votes[0].append(coins.votes[1].pop())
        self.assert_bad_coins(coins, 15, 15)

    def test_bad_coins_where_a_list_is_no_order(self):
        coins = drawn(7, 3, [[0]], [3, 6])
        coins.stages[0].order = [0, 0]
        coins.votes[0].pop()
        self.assert_bad_coins(coins, 15, 14)

    def test_a_list_that_is_no_order_of_the_rows(self):
        for order in ([0, 0], [0], [0, 1, 2]):
            coins = drawn(7, 3, [[0]], [3, 6])
            coins.stages[0].order = order
            self.assertRaises(BadOrder, run, 7, 3, [[0]], [3, 6], coins)

    def test_no_coins_are_missing_but_those_of_a_stage(self):
        with self.assertRaises(BadCoins) as caught:
            run(7, 1, [[]], [3, 6], RunCoins([[], []], []))
        self.assertEqual((caught.exception.due, caught.exception.given), (1, 0))

    def test_the_order_of_the_errors(self):
        none = RunCoins([], [])
        bad_lots, good_lots = [[0, 1, 2]], [[0]]
        self.assertRaises(BadPrime, run, 4, 3, bad_lots, [9], none)
        self.assertRaises(BadPrime, run, 4, 3, bad_lots, [0], none)
        self.assertRaises(BadPrime, run, 4, 3, good_lots, [9], none)
        self.assertRaises(BadPrime, run, 4, 3, good_lots, [0], none)
        self.assertRaises(BadLots, run, 7, 3, bad_lots, [9], none)
        self.assertRaises(BadLots, run, 7, 3, bad_lots, [0], none)
        self.assertRaises(BadValue, run, 7, 3, good_lots, [9], none)
        self.assertRaises(BadCoins, run, 7, 3, good_lots, [0], none)


class CopiesTest(unittest.TestCase):
    """Point 3."""

    def test_what_is_passed_in_stays(self):
        for prime, mixers, family, votes in RUNS:
            coins = drawn(prime, mixers, family, votes)
            given = deepcopy((family, votes))
            before = parts(coins)
            record = run(prime, mixers, family, votes, coins)
            check_votes(prime, votes)
            for found in [record.family, record.table, record.stages, record.opened] + record.family + record.table:
                found.append(9)
            for stage in record.stages[:-1]:
                for found in stage_fields(stage):
                    found.append(9)
                    if isinstance(found[0], list):
                        found[0].append(9)
            self.assertEqual((family, votes), given)
            self.assertEqual(parts(coins), before)

    def test_what_is_returned_is_new(self):
        for family in ([], [[0], [1]]):
            record = run(7, 3, family, [3, 6], drawn(7, 3, family, [3, 6]))
            before = deepcopy((last_table(record), whole_order(record)))
            table = last_table(record)
            table[0].append(9)
            table.append(9)
            whole_order(record).append(9)
            self.assertEqual((last_table(record), whole_order(record)), before)

    def test_a_record_shares_no_list_with_what_is_passed_in(self):
        family, table = [[0]], [[1, 2]]
        record = RunRecord(7, 2, family, table)
        for found in (record.family[0], record.family, record.table[0], record.table):
            found.append(9)
        self.assertEqual((family, table), ([[0]], [[1, 2]]))

    def test_the_tables_of_a_record_share_no_list(self):
        # So one who changes a step of a record does not change the next one.
        record = run(7, 3, [[0], [1]], [3, 6], drawn(7, 3, [[0], [1]], [3, 6]))
        later = deepcopy([stage_fields(stage) for stage in record.stages])
        record.table[0][0] += 1
        record.stages[0].held[0][0] += 1
        record.stages[0].table[1][1] += 1
        self.assertEqual(record.stages[0].ordered, later[0][4])
        self.assertEqual(stage_fields(record.stages[1]), later[1])


if __name__ == "__main__":
    unittest.main()
