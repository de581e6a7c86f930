"""Points 3, 34 and 35: mixers that change shares."""

import unittest
from copy import deepcopy
from itertools import product

from draws import drawn, parts, record_fields, stage_fields
from veilcount.cheats import changed_at, end_of, run_changed, shifts
from veilcount.coins import RunCoins, StageCoins
from veilcount.errors import BadCoins, BadLots, BadOrder, BadPrime, BadValue
from veilcount.perms import moved
from veilcount.runs import RunRecord, last_table, run, whole_order
from veilcount.shares import fresh_table, values_of
from veilcount.stages import run_stage

# A prime, a number of mixers, a family and votes.
RUNS = [
    (2, 1, [[]], [1, 0, 1]),
    (3, 2, [[0], []], [2, 1]),
    (5, 2, [], [4, 0, 1]),
    (7, 3, [[0], [1], [2]], [3, 6, 0, 5]),
    (7, 4, [[0, 1], [], [1, 3]], [3, 6, 6]),
    (7, 3, [[0]], []),
]


def some_changes(mixers, family, votes):
    """Changes in all tables, several of one share among them."""
    rows = len(votes)
    return [(stage, (stage + step) % rows, step % mixers, 3 * step - 5)
            for stage in range(len(family) + 1) for step in range(rows and rows + 3)]


def runs():
    for seed, (prime, mixers, family, votes) in enumerate(RUNS):
        yield prime, mixers, family, votes, drawn(prime, mixers, family, votes, seed)


class TablesTest(unittest.TestCase):

    TABLE = [[5, 6, 6], [1, 2, 3]]

    def test_a_change(self):
        self.assertEqual(changed_at(7, self.TABLE, [(0, 1, 2, 3)], 0), [[5, 6, 6], [1, 2, 6]])
        self.assertEqual(changed_at(7, self.TABLE, [(0, 0, 1, 1)], 0), [[5, 0, 6], [1, 2, 3]])

    def test_the_changes_of_other_stages(self):
        changes = [(0, 0, 0, 1), (2, 1, 1, 1), (1, 0, 2, 1)]
        self.assertEqual(changed_at(7, self.TABLE, changes, 0), [[6, 6, 6], [1, 2, 3]])
        self.assertEqual(changed_at(7, self.TABLE, changes, 1), [[5, 6, 0], [1, 2, 3]])
        self.assertEqual(changed_at(7, self.TABLE, changes, 2), [[5, 6, 6], [1, 3, 3]])
        self.assertEqual(changed_at(7, self.TABLE, changes, 3), self.TABLE)
        self.assertEqual(changed_at(7, self.TABLE, [], 0), self.TABLE)

    def test_several_changes_add_up(self):
        self.assertEqual(changed_at(7, self.TABLE, [(0, 0, 0, 1), (0, 1, 0, 2), (0, 0, 0, 4)], 0),
                         [[3, 6, 6], [3, 2, 3]])
        self.assertEqual(changed_at(7, self.TABLE, [(0, 0, 0, 1), (0, 0, 0, -1)], 0), self.TABLE)

    def test_differences_below_0_and_beyond_the_prime(self):
        self.assertEqual(changed_at(7, self.TABLE, [(0, 0, 0, -6), (0, 0, 1, 7), (0, 1, 1, 7 * 10 ** 30 + 1)], 0),
                         [[6, 6, 6], [1, 3, 3]])

    def test_no_rows(self):
        self.assertEqual(changed_at(7, [], [(1, 0, 0, 1)], 0), [])


class RunTest(unittest.TestCase):

    def test_no_changes_give_the_run_itself(self):
        for prime, mixers, family, votes, coins in runs():
            found = run_changed(prime, mixers, family, votes, coins, [])
            self.assertIsInstance(found, RunRecord)
            self.assertEqual(record_fields(found), record_fields(run(prime, mixers, family, votes, coins)))

    def test_changes_of_nothing_give_the_run_itself(self):
        for prime, mixers, family, votes, coins in runs():
            if votes:
                changes = [(0, 0, 0, prime), (len(family), 0, 0, 0), (0, 0, 0, 1), (0, 0, 0, -1)]
                found = run_changed(prime, mixers, family, votes, coins, changes)
                self.assertEqual(record_fields(found), record_fields(run(prime, mixers, family, votes, coins)))

    def test_the_changed_tables_are_in_the_record(self):
        for prime, mixers, family, votes, coins in runs():
            changes = some_changes(mixers, family, votes)
            record = run_changed(prime, mixers, family, votes, coins, changes)
            table = changed_at(prime, fresh_table(prime, votes, coins.votes), changes, 0)
            self.assertEqual(record.table, table)
            self.assertEqual(len(record.stages), len(family))
            for place, stage in enumerate(record.stages):
                due = run_stage(prime, mixers, table, stage.holders, coins.stages[place])
                due.table = table = changed_at(prime, due.table, changes, place + 1)
                self.assertEqual(stage_fields(stage), stage_fields(due))
            self.assertEqual(last_table(record), table)
            self.assertEqual(record.opened, values_of(prime, table))
            self.assertEqual((record.prime, record.mixers, record.family), (prime, mixers, family))

    def test_a_change_in_each_table(self):
        # The first order moves the row 0 to 1, the row 1 to 2, the row 2 to 0; the second one exchanges 0 and 1.
        coins = drawn(11, 3, [[0], [1]], [3, 6, 0])
        coins.stages[0].order, coins.stages[1].order = [2, 0, 1], [1, 0, 2]
        self.assertEqual(run(11, 3, [[0], [1]], [3, 6, 0], coins).opened, [3, 0, 6])
        for mixer in range(3):
            for change, opened in (((0, 1, mixer, 2), [3, 0, 8]), ((0, 0, mixer, -4), [10, 0, 6]),
                                   ((1, 1, mixer, 13), [5, 0, 6]), ((1, 2, mixer, 5), [3, 0, 0]),
                                   ((2, 1, mixer, 1), [3, 1, 6]), ((2, 0, mixer, -3), [0, 0, 6])):
                record = run_changed(11, 3, [[0], [1]], [3, 6, 0], coins, [change])
                self.assertEqual(record.opened, opened)

    def test_a_change_without_stages(self):
        coins = RunCoins([[5, 6], [1, 2]], [])
        record = run_changed(7, 3, [], [3, 6], coins, [(0, 1, 2, 3)])
        self.assertEqual((record.table, record.opened), ([[5, 6, 6], [1, 2, 6]], [3, 2]))

    def test_what_run_raises(self):
        coins = drawn(7, 3, [[0]], [3, 6])
        change = [(0, 0, 0, 1)]
        with self.assertRaises(BadPrime) as caught:
            run_changed(8, 3, [[0, 1, 2]], [9], coins, change)
        self.assertEqual(caught.exception.number, 8)
        with self.assertRaises(BadLots) as caught:
            run_changed(7, 3, [[0, 1, 2]], [9], coins, change)
        self.assertEqual((caught.exception.first, caught.exception.second), (0, 0))
        with self.assertRaises(BadValue) as caught:
            run_changed(7, 3, [[0]], [3, 9, 8], coins, change)
        self.assertEqual(caught.exception.value, 9)
        with self.assertRaises(BadCoins) as caught:
            run_changed(7, 3, [[0]], [3], coins, change)
        self.assertEqual((caught.exception.due, caught.exception.given), (8, 15))
        coins.stages[0].order = [0, 0]
        self.assertRaises(BadOrder, run_changed, 7, 3, [[0]], [3, 6], coins, change)


class EndsTest(unittest.TestCase):
    """Point 35."""

    def test_by_hand(self):
        coins = RunCoins([[]] * 3, [StageCoins([], [2, 0, 1], [[[]] * 3]), StageCoins([], [1, 0, 2], [[[]] * 3])])
        self.assertEqual([end_of(coins, 0, row) for row in range(3)], [0, 2, 1])
        self.assertEqual([end_of(coins, 1, row) for row in range(3)], [1, 0, 2])
        # For the number of stages, the rows are those that are opened.
        self.assertEqual([end_of(coins, 2, row) for row in range(3)], [0, 1, 2])

    def test_without_stages(self):
        self.assertEqual(end_of(RunCoins([[], []], []), 0, 1), 1)

    def test_the_vote_ends_there(self):
        for prime, mixers, family, votes, coins in runs():
            record = run(prime, mixers, family, votes, coins)
            tables = [record.table] + [stage.table for stage in record.stages]
            for stage, table in enumerate(tables):
                values = values_of(prime, table)
                ends = [end_of(coins, stage, row) for row in range(len(votes))]
                self.assertEqual(sorted(ends), list(range(len(votes))))
                for row, end in enumerate(ends):
                    self.assertEqual(record.opened[end], values[row])
            self.assertEqual(moved([end_of(coins, 0, row) for row in range(len(votes))], whole_order(record)),
                             list(range(len(votes))))

    def test_a_list_that_is_no_order(self):
        coins = RunCoins([[], []], [StageCoins([], [0, 0], [[[], []]])])
        self.assertRaises(BadOrder, end_of, coins, 0, 0)

    def test_shifts_by_hand(self):
        coins = RunCoins([[]] * 3, [StageCoins([], [2, 0, 1], [[[]] * 3]), StageCoins([], [1, 0, 2], [[[]] * 3])])
        self.assertEqual(shifts(7, coins, [], 3), [0, 0, 0])
        self.assertEqual(shifts(7, coins, [(0, 1, 0, 2)], 3), [0, 0, 2])
        self.assertEqual(shifts(7, coins, [(0, 1, 0, -2), (1, 2, 5, 1), (2, 2, 1, 15)], 3), [0, 0, 0])
        self.assertEqual(shifts(7, coins, [(2, 1, 0, 7 * 10 ** 30 - 1), (0, 0, 0, 6)], 3), [6, 6, 0])
        self.assertEqual(shifts(7, RunCoins([], []), [], 0), [])

    def test_the_opened_values_with_changes(self):
        for prime, mixers, family, votes, coins in runs():
            record = run(prime, mixers, family, votes, coins)
            every = some_changes(mixers, family, votes)
            for changes in [every, every[::2], every[::-1] + every, every[:1], []]:
                added = shifts(prime, coins, changes, len(votes))
                self.assertTrue(all(more in range(prime) for more in added))
                found = run_changed(prime, mixers, family, votes, coins, changes).opened
                self.assertEqual(found, [(value + more) % prime for value, more in zip(record.opened, added)])

    def test_every_single_change(self):
        for prime, mixers, family, votes, coins in runs():
            opened = run(prime, mixers, family, votes, coins).opened
            for stage, row, mixer in product(range(len(family) + 1), range(len(votes)), range(mixers)):
                due = list(opened)
                end = end_of(coins, stage, row)
                due[end] = (due[end] + 1) % prime
                found = run_changed(prime, mixers, family, votes, coins, [(stage, row, mixer, 1)])
                self.assertEqual(found.opened, due)


class CopiesTest(unittest.TestCase):
    """Point 3."""

    def test_what_is_passed_in_stays(self):
        for prime, mixers, family, votes, coins in runs():
            changes = some_changes(mixers, family, votes)
            given = deepcopy((family, votes, changes))
            before = parts(coins)
            record = run_changed(prime, mixers, family, votes, coins, changes)
            shifts(prime, coins, changes, len(votes)).append(9)
            for found in [record.family, record.table, record.opened] + record.family + record.table:
                found.append(9)
            for stage in record.stages:
                for found in stage_fields(stage):
                    found.append(9)
                    if isinstance(found[0], list):
                        found[0].append(9)
            self.assertEqual((family, votes, changes), given)
            self.assertEqual(parts(coins), before)

    def test_a_table_stays(self):
        table, changes = [[1, 2], [3, 4]], [(0, 0, 0, 1)]
        for stage in range(2):
            found = changed_at(7, table, changes, stage)
            found[1].append(9)
            found.append(9)
        self.assertEqual((table, changes), ([[1, 2], [3, 4]], [(0, 0, 0, 1)]))

    def test_the_tables_of_a_record_share_no_list(self):
        record = run_changed(7, 3, [[0], [1]], [3, 6], drawn(7, 3, [[0], [1]], [3, 6]), [(1, 0, 0, 1)])
        before = record_fields(record)
        record.table[0][0] += 1
        record.stages[0].table[0][0] += 1
        self.assertEqual(record_fields(record)[4][1], before[4][1])


if __name__ == "__main__":
    unittest.main()
