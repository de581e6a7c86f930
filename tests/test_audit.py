"""Points 3, 30 and 31: audits."""

import unittest
from copy import deepcopy
from itertools import product

from draws import drawn, record_fields
from veilcount.audit import blamed, faults, stage_faults
from veilcount.cheats import run_changed
from veilcount.coins import RunCoins, StageCoins
from veilcount.runs import RunRecord, run
from veilcount.shares import values_of
from veilcount.stages import StageRecord

# A prime, a number of mixers, a family and votes.
RUNS = [
    (2, 1, [], [1, 0]),
    (2, 1, [[]], [1, 0, 1]),
    (3, 2, [[0], []], [2, 1]),
    (7, 3, [[0], [1], [2]], [3, 6, 0]),
    (7, 4, [[0, 1], [], [1, 3]], [3, 6]),
    (101, 5, [[0, 1], [2, 3], [1, 4]], [100, 50, 50, 0]),
    (7, 3, [[0, 2], [0]], []),
    (7, 3, [], []),
    (7, 3, [], [3, 6]),
]

# Where the numbers of a stage stand.
FIELDS = ("gathered", "held", "order", "ordered", "spread", "table")


def small_run():
    """Holders are 1 and 2, then 0 and 2."""
    first = StageCoins([[[4], [6]]], [1, 0], [[[2, 3], [0, 6]], [[1, 1], [5, 4]]])
    second = StageCoins([[[1], [2]]], [0, 1], [[[3, 4], [5, 6]], [[0, 1], [2, 3]]])
    return run(7, 3, [[0], [1]], [3, 6], RunCoins([[5, 6], [1, 2]], [first, second]))


def places_of(thing):
    """The lists in a list that have numbers, each with the places of its numbers."""
    if thing and not isinstance(thing[0], list):
        return [(thing, place) for place in range(len(thing))]
    return [found for part in thing for found in places_of(part)]


def shares_of(record):
    """The places of all numbers of a record but those of the orders."""
    found = places_of(record.table) + places_of(record.opened)
    for stage in record.stages:
        for field in FIELDS:
            if field != "order":
                found += places_of(getattr(stage, field))
    return found


def plain_faults(record):
    """Point 30 in its own words, for lists that are orders."""
    prime, found, table = record.prime, [], record.table
    rows = range(len(table))
    for number, stage in enumerate(record.stages):
        others = [mixer for mixer in range(record.mixers) if mixer not in stage.holders]
        gathered, spread = dict(zip(others, stage.gathered)), dict(zip(stage.holders, stage.spread))
        checks = []
        for mixer, row in product(others, rows):
            checks.append(("gather", mixer, row, sum(gathered[mixer][row]), table[row][mixer]))
        for (seat, holder), row in product(enumerate(stage.holders), rows):
            gets = sum(gathered[mixer][row][seat] for mixer in others)
            checks.append(("hold", holder, row, stage.held[row][seat], table[row][holder] + gets))
        for (seat, holder), row in product(enumerate(stage.holders), rows):
            checks.append(("order", holder, row, stage.ordered[row][seat], stage.held[stage.order[row]][seat]))
        for (seat, holder), row in product(enumerate(stage.holders), rows):
            checks.append(("spread", holder, row, sum(spread[holder][row]), stage.ordered[row][seat]))
        for mixer, row in product(range(record.mixers), rows):
            gets = sum(spread[holder][row][mixer] for holder in stage.holders)
            checks.append(("add", mixer, row, stage.table[row][mixer], gets))
        found += [(number, word, mixer, row) for word, mixer, row, one, other in checks if (one - other) % prime]
        table = stage.table
    return found + [(len(record.stages), "open", None, row) for row in rows
                    if (record.opened[row] - sum(table[row])) % prime]


class HonestTest(unittest.TestCase):

    def test_the_record_of_a_run_has_no_faults(self):
        for prime, mixers, family, votes in RUNS:
            for seed in range(10):
                record = run(prime, mixers, family, votes, drawn(prime, mixers, family, votes, seed))
                self.assertEqual(faults(record), [])
                self.assertEqual(blamed(record), [])
                table = record.table
                for stage in record.stages:
                    self.assertEqual(stage_faults(prime, mixers, table, stage), [])
                    table = stage.table

    def test_a_change_by_the_prime_is_no_fault(self):
        for prime, mixers, family, votes in RUNS:
            record = run(prime, mixers, family, votes, drawn(prime, mixers, family, votes))
            for at, (numbers, place) in enumerate(shares_of(record)):
                numbers[place] += prime * (at % 5 - 2)
                self.assertEqual(faults(record), [])

    def test_nobody_is_blamed_without_stages(self):
        record = run(7, 3, [], [3, 6], drawn(7, 3, [], [3, 6]))
        record.table[1][2] += 1
        self.assertEqual(faults(record), [(0, "open", None, 1)])
        self.assertEqual(blamed(record), [])


class OneChangeTest(unittest.TestCase):
    """One number is changed in the record of small_run."""

    def assert_faults(self, found, record):
        self.assertEqual(faults(record), found)
        self.assertEqual(blamed(record), sorted({mixer for _, _, mixer, _ in found if mixer is not None}))

    def test_a_share_of_the_first_table(self):
        record = small_run()
        record.table[1][0] += 1
        self.assert_faults([(0, "gather", 0, 1)], record)
        record = small_run()
        record.table[1][2] += 1
        self.assert_faults([(0, "hold", 2, 1)], record)

    def test_a_gathered_piece(self):
        # Mixer 1 is the one that is no holder in the second stage; its pieces are for 0 and 2.
        record = small_run()
        record.stages[1].gathered[0][0][1] += 1
        self.assert_faults([(1, "gather", 1, 0), (1, "hold", 2, 0)], record)

    def test_a_held_share(self):
        record = small_run()
        record.stages[0].held[0][1] += 1
        # The row 0 is moved to the row 1.
        self.assert_faults([(0, "hold", 2, 0), (0, "order", 2, 1)], record)

    def test_an_entry_of_the_order(self):
        # The held shares are [3, 0] and [1, 5].
        record = small_run()
        record.stages[0].order[0] = 0
        self.assert_faults([(0, "order", 1, 0), (0, "order", 2, 0)], record)
        self.assertEqual(blamed(record), [1, 2])

    def test_an_entry_of_the_order_that_is_no_row(self):
        for entry in (2, 10 ** 30, -1, -2):
            record = small_run()
            record.stages[0].order[1] = entry
            self.assert_faults([(0, "order", 1, 1), (0, "order", 2, 1)], record)

    def test_another_old_row_with_the_same_shares_is_no_fault(self):
        record = run(7, 1, [[]], [3, 3], drawn(7, 1, [[]], [3, 3]))
        record.stages[0].order = record.stages[0].order[::-1]
        self.assertEqual(faults(record), [])
        # Not even where the list is no order: the shares are those of the old rows, and none is lost.
        record.stages[0].order = [0, 0]
        self.assertEqual(faults(record), [])

    def test_a_moved_share(self):
        record = small_run()
        record.stages[1].ordered[0][0] += 1
        self.assert_faults([(1, "order", 0, 0), (1, "spread", 0, 0)], record)
        self.assertEqual(blamed(record), [0])

    def test_a_spread_piece(self):
        record = small_run()
        record.stages[0].spread[1][0][1] += 1
        self.assert_faults([(0, "spread", 2, 0), (0, "add", 1, 0)], record)
        self.assertEqual(blamed(record), [1, 2])

    def test_a_share_of_a_new_table(self):
        record = small_run()
        record.stages[0].table[0][1] += 1
        # Mixer 1 is no holder in the second stage, mixer 2 is one.
        self.assert_faults([(0, "add", 1, 0), (1, "gather", 1, 0)], record)
        record = small_run()
        record.stages[0].table[0][2] += 1
        self.assert_faults([(0, "add", 2, 0), (1, "hold", 2, 0)], record)

    def test_a_share_of_the_last_table(self):
        record = small_run()
        record.stages[1].table[1][1] += 1
        self.assert_faults([(1, "add", 1, 1), (2, "open", None, 1)], record)

    def test_an_opened_value(self):
        record = small_run()
        record.opened[1] += 1
        self.assert_faults([(2, "open", None, 1)], record)
        self.assertEqual(blamed(record), [])

    def test_every_number_of_every_run(self):
        for prime, mixers, family, votes in RUNS:
            record = run(prime, mixers, family, votes, drawn(prime, mixers, family, votes))
            for numbers, place in shares_of(record):
                numbers[place] += 1
                self.assertNotEqual(faults(record), [])
                self.assertEqual(faults(record), plain_faults(record))
                numbers[place] -= 1
            self.assertEqual(faults(record), [])

    def test_every_other_order(self):
        for prime, mixers, family, votes in RUNS:
            record = run(prime, mixers, family, votes, drawn(prime, mixers, family, votes))
            for stage in record.stages:
                given = stage.order
                for order in product(range(len(votes)), repeat=len(votes)):
                    stage.order = list(order)
                    self.assertEqual(faults(record), plain_faults(record))
                stage.order = given


class SeveralFaultsTest(unittest.TestCase):

    def test_the_order_of_the_faults(self):
        record = small_run()
        for stage in record.stages[::-1]:
            for field in FIELDS[::-1]:
                if field != "order":
                    for numbers, place in places_of(getattr(stage, field)):
                        numbers[place] += FIELDS.index(field) + 1
        for row in (1, 0):
            record.opened[row] += 3
            record.table[row][2] += 1
        found = faults(record)
        self.assertEqual(found, plain_faults(record))
        words = ["gather", "hold", "order", "spread", "add", "open"]
        places = [(number, words.index(word), -1 if mixer is None else mixer, row)
                  for number, word, mixer, row in found]
        self.assertEqual(places, sorted(places))
        self.assertEqual({(number, word) for number, word, _, _ in found},
                         set(product((0, 1), words[:5])) | {(2, "open")})

    def test_by_mixers_and_then_by_rows(self):
        record = small_run()
        for row, mixer in ((1, 2), (0, 2), (1, 1), (0, 1)):
            record.table[row][mixer] += 1
        self.assertEqual(faults(record), [(0, "hold", 1, 0), (0, "hold", 1, 1), (0, "hold", 2, 0), (0, "hold", 2, 1)])
        self.assertEqual(blamed(record), [1, 2])

    def test_mixers_are_meant_and_not_places(self):
        # The holders are 2 and 4; the others are 0, 1 and 3.
        record = run(7, 5, [[0, 1, 3]], [3, 6], drawn(7, 5, [[0, 1, 3]], [3, 6]))
        stage = record.stages[0]
        stage.gathered[2][0][1] += 1
        stage.ordered[1][1] += 1
        self.assertEqual(faults(record), [(0, "gather", 3, 0), (0, "hold", 4, 0), (0, "order", 4, 1),
                                          (0, "spread", 4, 1)])
        self.assertEqual(stage_faults(7, 5, record.table, stage), [("gather", 3, 0), ("hold", 4, 0), ("order", 4, 1),
                                                                   ("spread", 4, 1)])
        self.assertEqual(blamed(record), [3, 4])

    def test_the_faults_of_a_stage_are_those_on_the_table_before_it(self):
        record = small_run()
        stage = record.stages[1]
        self.assertEqual(stage_faults(7, 3, record.stages[0].table, stage), [])
        table = deepcopy(record.stages[0].table)
        table[0][1] += 1
        self.assertEqual(stage_faults(7, 3, table, stage), [("gather", 1, 0)])

    def test_several_changes_at_once(self):
        for prime, mixers, family, votes in RUNS:
            record = run(prime, mixers, family, votes, drawn(prime, mixers, family, votes))
            for step in range(1, 8):
                for numbers, place in shares_of(record)[::step]:
                    numbers[place] = (numbers[place] + step) * 3 - 1
                self.assertEqual(faults(record), plain_faults(record))

    def test_the_changes_of_mixers_are_faults_of_adding(self):
        coins = drawn(7, 3, [[0], [1]], [3, 6])
        record = run_changed(7, 3, [[0], [1]], [3, 6], coins, [(1, 0, 2, 3), (2, 1, 0, -1)])
        self.assertEqual(faults(record), [(0, "add", 2, 0), (1, "add", 0, 1)])
        self.assertEqual(blamed(record), [0, 2])


class FactsTest(unittest.TestCase):
    """Point 31: a record without faults opens the values of its first table in another order."""

    def test_all_records_of_one_mixer_and_two_rows(self):
        for order in product(range(2), repeat=2):
            for bits in product(range(2), repeat=10):
                record = self.record_of(order, [[bit] for bit in bits])
                if not faults(record):
                    self.assertEqual(sorted(record.opened), sorted(values_of(2, record.table)))

    def record_of(self, order, shares):
        record = RunRecord(2, 1, [[]], shares[:2])
        stage = StageRecord([0], [], shares[2:4], [0, 1])
        stage.order = list(order)
        stage.ordered = shares[4:6]
        stage.spread = [shares[6:8]]
        stage.table = shares[8:]
        record.stages = [stage]
        record.opened = values_of(2, stage.table)
        return record

    def test_a_row_that_is_taken_twice(self):
        # Each moved share is the held share in the old row, but the first vote is gone.
        record = run(7, 1, [[]], [3, 6, 4], RunCoins([[]] * 3, [StageCoins([], [0, 2, 1], [[[]] * 3])]))
        stage = record.stages[0]
        stage.order, stage.ordered, stage.spread = [1, 2, 1], [[6], [4], [6]], [[[6], [4], [6]]]
        stage.table, record.opened = [[6], [4], [6]], [6, 4, 6]
        self.assertEqual(faults(record), [(0, "order", 0, 2)])
        self.assertEqual(blamed(record), [0])

    def test_records_without_faults_of_other_runs(self):
        for prime, mixers, family, votes in RUNS:
            coins = drawn(prime, mixers, family, votes, 3)
            record = run(prime, mixers, family, votes, coins)
            for stage in record.stages:
                for row in stage.table:
                    row[:] = [share + prime for share in row]
            self.assertEqual(faults(record), [])
            self.assertEqual(sorted(record.opened), sorted(values_of(prime, record.table)))


class CopiesTest(unittest.TestCase):
    """Point 3."""

    def test_the_record_stays(self):
        for change in (0, 1):
            for prime, mixers, family, votes in RUNS:
                record = run(prime, mixers, family, votes, drawn(prime, mixers, family, votes))
                for numbers, place in places_of(record.table):
                    numbers[place] += change
                before = record_fields(record)
                faults(record).append(9)
                blamed(record).append(9)
                for stage in record.stages:
                    stage_faults(prime, mixers, record.table, stage).append(9)
                self.assertEqual(record_fields(record), before)


if __name__ == "__main__":
    unittest.main()
