"""Points 12, 13, 30, 31 and 60: audits of records in which something is missing, or one too many."""

import unittest
from copy import deepcopy
from itertools import product

from draws import drawn, numbers_from, record_fields
from veilcount.audit import blamed, faults, stage_faults
from veilcount.coins import coins_of
from veilcount.perms import moved
from veilcount.runs import RunRecord, run
from veilcount.shares import values_of
from veilcount.stages import StageRecord

# A prime, a number of mixers, a family and votes.
RUNS = [
    (2, 1, [[]], [1, 0, 1]),
    (7, 2, [[0]], [3, 5]),
    (3, 2, [[0], []], [2, 1]),
    (7, 3, [[0], [1], [2]], [3, 6, 0]),
    (7, 4, [[0, 1], [], [1, 3]], [3, 6]),
    (7, 3, [], [3, 6]),
    (7, 3, [[1]], [4]),
]

FIELDS = ("holders", "gathered", "held", "order", "ordered", "spread", "table")


def small_run(family=([0],), numbers=(2, 1, 2, 3, 4)):
    """Two votes and two mixers; with these numbers the first table is [[2, 1], [1, 4]]."""
    family = [list(lot) for lot in family]
    return run(7, 2, family, [3, 5], coins_of(list(numbers), prime=7, mixers=2, family=family, rows=2))


def lists_in(thing):
    """All lists in a list, itself the first one."""
    return [thing] + [found for part in thing if isinstance(part, list) for found in lists_in(part)]


def lists_of(record):
    """All lists of a record, those of the holders and orders too."""
    found = lists_in(record.table) + lists_in(record.opened)
    for stage in record.stages:
        for field in FIELDS:
            found += lists_in(getattr(stage, field))
    return found


def spoilt(things, way, place):
    """Change the length of a list in one of several ways."""
    if way == "cut":
        del things[place:]
    elif way == "taken" and things:
        things.pop(place % len(things))
    elif way == "twice" and things:
        things.insert(place % len(things), deepcopy(things[place % len(things)]))
    elif way == "more" and things:
        things.append(deepcopy(things[0]))
    elif way == "emptied":
        things.clear()


class MissingTest(unittest.TestCase):
    """What is missing makes the checks fail in which it stands, and no others."""

    def setUp(self):
        self.record = small_run()
        self.stage = self.record.stages[0]

    def assert_faults(self, found):
        self.assertEqual(faults(self.record), found)
        self.assertEqual(blamed(self.record), sorted({mixer for _, _, mixer, _ in found if mixer is not None}))

    def test_the_record_itself(self):
        self.assertEqual(self.record.table, [[2, 1], [1, 4]])
        self.assertEqual(record_fields(self.record)[4],
                         [([1], [[[2], [1]]], [[3], [5]], [0, 1], [[3], [5]], [[[3, 0], [4, 1]]], [[3, 0], [4, 1]])])
        self.assert_faults([])

    def test_entries_of_the_order(self):
        self.stage.order = [0]
        self.assert_faults([(0, "order", 1, 1)])
        self.stage.order = []
        self.assert_faults([(0, "order", 1, 0), (0, "order", 1, 1)])

    def test_an_entry_too_many_of_the_order(self):
        self.stage.order = [0, 1, 1]
        self.assert_faults([(0, "order", 1, 2)])

    def test_no_row_is_counted_from_the_end(self):
        self.stage.order = [0, -1]
        self.assert_faults([(0, "order", 1, 1)])
        self.stage.order = [-2, 1]
        self.assert_faults([(0, "order", 1, 0)])

    def test_opened_values(self):
        self.record.opened = [3]
        self.assert_faults([(1, "open", None, 1)])
        self.record.opened = []
        self.assert_faults([(1, "open", None, 0), (1, "open", None, 1)])

    def test_opened_values_too_many(self):
        self.record.opened = [3, 5, 0, 0]
        self.assert_faults([(1, "open", None, 2), (1, "open", None, 3)])

    def test_rows_of_the_new_table(self):
        self.stage.table, self.record.opened = self.stage.table[:1], [3]
        self.assert_faults([(0, "add", 0, 1), (0, "add", 1, 1)])
        self.stage.table, self.record.opened = [], []
        self.assert_faults([(0, "add", 0, 0), (0, "add", 0, 1), (0, "add", 1, 0), (0, "add", 1, 1)])

    def test_rows_too_many_of_the_new_table(self):
        self.stage.table.append([0, 0])
        self.record.opened.append(0)
        self.assert_faults([(0, "add", 0, 2), (0, "add", 1, 2)])

    def test_a_share_of_the_new_table(self):
        self.stage.table[1] = [4]
        self.record.opened[1] = 4
        self.assert_faults([(0, "add", 1, 1)])

    def test_pieces_of_the_spreading(self):
        self.stage.spread, self.stage.table, self.record.opened = [], [[0, 0], [0, 0]], [0, 0]
        self.assert_faults([(0, "spread", 1, 0), (0, "spread", 1, 1)])
        self.stage.spread, self.stage.table, self.record.opened = [[[3, 0]]], [[3, 0], [0, 0]], [3, 0]
        self.assert_faults([(0, "spread", 1, 1)])
        self.stage.spread, self.stage.table, self.record.opened = [[[3], [4, 1]]], [[3, 0], [4, 1]], [3, 5]
        self.assert_faults([(0, "spread", 1, 0)])
        self.stage.table = [[3, 1], [4, 1]]
        self.assert_faults([(0, "spread", 1, 0), (0, "add", 1, 0), (1, "open", None, 0)])

    def test_pieces_of_the_gathering(self):
        self.stage.gathered = []
        self.stage.held = self.stage.ordered = [[1], [4]]
        self.stage.spread, self.stage.table, self.record.opened = [[[3, 5], [4, 0]]], [[3, 5], [4, 0]], [1, 4]
        self.assert_faults([(0, "gather", 0, 0), (0, "gather", 0, 1)])
        self.stage.gathered = [[[2]]]
        self.assert_faults([(0, "gather", 0, 1), (0, "hold", 1, 0)])
        self.stage.gathered = [[[], [1]]]
        self.assert_faults([(0, "gather", 0, 0), (0, "hold", 1, 1)])

    def test_a_share_of_nought_has_pieces_too(self):
        # The share of the mixer 0 in the row 0 is 0, and so is the sum of no pieces.
        record = small_run(numbers=(0, 1, 2, 3, 4))
        self.assertEqual(record.table[0][0], 0)
        record.stages[0].gathered = [[[], [1]]]
        self.assertEqual(faults(record), [(0, "gather", 0, 0)])

    def test_held_shares(self):
        self.stage.held = [[], [5]]
        self.assert_faults([(0, "hold", 1, 0), (0, "order", 1, 0)])
        self.stage.held = [[3]]
        self.assert_faults([(0, "hold", 1, 1), (0, "order", 1, 1)])
        self.stage.held = []
        self.assert_faults([(0, "hold", 1, 0), (0, "hold", 1, 1), (0, "order", 1, 0), (0, "order", 1, 1)])

    def test_a_held_row_too_many(self):
        self.stage.held = [[3], [5], [5]]
        self.assert_faults([(0, "hold", 1, 2)])
        self.stage.order = [0, 2]
        self.assert_faults([(0, "hold", 1, 2)])

    def test_moved_shares(self):
        self.stage.ordered = [[3]]
        self.assert_faults([(0, "order", 1, 1), (0, "spread", 1, 1)])
        self.stage.ordered = [[3], []]
        self.assert_faults([(0, "order", 1, 1), (0, "spread", 1, 1)])

    def test_a_moved_row_too_many(self):
        self.stage.ordered = [[3], [5], [5]]
        self.assert_faults([(0, "order", 1, 2), (0, "spread", 1, 2)])

    def test_only_the_holder_whose_share_is_missing(self):
        record = small_run(family=[[]], numbers=(2, 1, 0, 2, 3, 4, 5))
        stage = record.stages[0]
        self.assertEqual(stage.holders, [0, 1])
        stage.held[1] = stage.held[1][:1]
        self.assertEqual(faults(record), [(0, "hold", 1, 1), (0, "order", 1, 1)])
        stage.held[1], stage.spread[0] = stage.ordered[1], stage.spread[0][:1]
        self.assertEqual(faults(record), [(0, "spread", 0, 1), (0, "add", 0, 1), (0, "add", 1, 1)])

    def test_rows_of_the_first_table(self):
        self.record.table = [[2, 1]]
        self.assertEqual(stage_faults(7, 2, [[2, 1]], self.stage),
                         [("gather", 0, 1), ("hold", 1, 1), ("order", 1, 1), ("spread", 1, 1), ("add", 0, 1),
                          ("add", 1, 1)])
        self.assertEqual(blamed(self.record), [0, 1])

    def test_shares_of_the_first_table(self):
        self.record.table[0] = [2]
        self.assert_faults([(0, "hold", 1, 0)])
        self.record.table[0] = []
        self.assert_faults([(0, "gather", 0, 0), (0, "hold", 1, 0)])


class NobodyTest(unittest.TestCase):
    """Pieces that nobody gives or gets, and shares that nobody has."""

    def setUp(self):
        self.record = small_run()
        self.stage = self.record.stages[0]

    def test_a_spread_piece_that_no_mixer_gets(self):
        self.stage.spread = [[[1, 0, 2], [4, 1]]]
        self.assertEqual(faults(self.record), [(0, "spread", 1, 0), (0, "add", 0, 0)])
        self.stage.table[0], self.record.opened[0] = [1, 0], 1
        self.assertEqual(faults(self.record), [(0, "spread", 1, 0)])

    def test_a_gathered_piece_that_no_holder_gets(self):
        self.stage.gathered = [[[2], [0, 1]]]
        self.assertEqual(faults(self.record), [(0, "gather", 0, 1), (0, "hold", 1, 1)])

    def test_pieces_of_nobody_are_not_added(self):
        self.stage.gathered.append([[1], [1]])
        self.stage.spread.append([[1, 1], [1, 1]])
        self.assertEqual(faults(self.record), [])
        self.stage.held = self.stage.ordered = [[4], [6]]
        self.assertEqual([fault for fault in faults(self.record) if fault[1] == "hold"],
                         [(0, "hold", 1, 0), (0, "hold", 1, 1)])
        record = small_run()
        record.stages[0].spread.append([[1, 1], [1, 1]])
        record.stages[0].table = [[4, 1], [5, 2]]
        self.assertEqual(faults(record)[:4], [(0, "add", 0, 0), (0, "add", 0, 1), (0, "add", 1, 0), (0, "add", 1, 1)])

    def test_a_new_share_of_no_mixer(self):
        self.stage.table[0], self.record.opened = [3, 0, 2], [5, 5]
        self.assertEqual(faults(self.record), [(0, "add", 0, 0), (0, "add", 1, 0), (1, "open", None, 0)])

    def test_a_share_of_no_mixer_in_the_first_table(self):
        # Its row has the value 5 with it.
        self.record.table[0] = [2, 1, 2]
        self.assertEqual(values_of(7, self.record.table), [5, 5])
        self.assertEqual(faults(self.record), [(0, "gather", 0, 0), (0, "hold", 1, 0)])
        record = run(7, 2, [], [3, 5], coins_of([2, 1], prime=7, mixers=2, family=[], rows=2))
        record.table[1] = [1, 4, 0]
        self.assertEqual(faults(record), [(0, "open", None, 1)])

    def test_a_held_share_of_no_holder(self):
        self.stage.held[0] = [3, 0]
        self.assertEqual(faults(self.record), [(0, "hold", 1, 0), (0, "order", 1, 0)])

    def test_a_holder_that_is_named_twice(self):
        # Its own share would count twice.
        record = RunRecord(7, 2, [[0]], [[2, 1]])
        stage = StageRecord([1, 1], [[[2, 0]]], [[3, 1]], [0])
        stage.spread, stage.table = [[[3, 0]], [[1, 0]]], [[4, 0]]
        record.stages, record.opened = [stage], [4]
        self.assertNotEqual(faults(record), [])
        record = RunRecord(7, 2, [[]], [[2, 1]])
        stage = StageRecord([0, 1, 1], [], [[2, 1, 1]], [0])
        stage.spread, stage.table = [[[2, 0]], [[0, 1]], [[1, 0]]], [[3, 1]]
        record.stages, record.opened = [stage], [4]
        self.assertNotEqual(faults(record), [])

    def test_a_holder_that_is_no_mixer(self):
        for holders in ([1, 2], [-1, 1], [1, -2]):
            record = RunRecord(7, 2, [[0]], [[2, 1]])
            stage = StageRecord(holders, [[[2, 0]]], [[3, 1]], [0])
            stage.spread, stage.table = [[[3, 0]], [[1, 0]]], [[4, 0]]
            record.stages, record.opened = [stage], [4]
            self.assertNotEqual(faults(record), [])
            self.assertEqual(set(blamed(record)) - {0, 1}, set())

    def test_no_holders(self):
        self.stage.holders = []
        self.assertEqual(faults(self.record)[:2], [(0, "gather", 0, 0), (0, "gather", 0, 1)])


class FactTest(unittest.TestCase):
    """Point 31: a record without faults opens the values of its first table; and no record raises an error."""

    def assert_fact(self, record):
        found = faults(record)
        self.assertIsInstance(found, list)
        self.assertTrue(all(isinstance(fault, tuple) and len(fault) == 4 for fault in found))
        self.assertEqual(blamed(record), sorted({fault[2] for fault in found} - {None}))
        if not found:
            self.assertEqual(sorted(record.opened), sorted(values_of(record.prime, record.table)))
        return found

    def test_each_list_spoilt_in_each_way(self):
        for case in RUNS:
            honest = run(*case, drawn(*case))
            for at in range(len(lists_of(honest))):
                for way, place in product(("cut", "taken", "twice", "more", "emptied"), (0, 1, 2)):
                    record = deepcopy(honest)
                    spoilt(lists_of(record)[at], way, place)
                    self.assert_fact(record)

    def test_several_lists_spoilt_at_once(self):
        ways = ("cut", "taken", "twice", "more", "emptied")
        for case in RUNS:
            honest = run(*case, drawn(*case))
            for seed in range(400):
                record = deepcopy(honest)
                for number in numbers_from(seed, 1 + seed % 5):
                    lists = lists_of(record)
                    spoilt(lists[number % len(lists)], ways[number % 5], number % 3)
                self.assert_fact(record)

    def test_rows_left_out_throughout(self):
        # A cheat that leaves a row out, or has one twice, from some step on, and all later steps fit to it.
        steps = ("gathered", "held", "ordered", "spread", "table", "opened")
        for begin, rows in product(steps, ([0], [], [0, 0], [0, 1, 1], [0, 1, 0], [1])):
            record = small_run()
            stage = record.stages[0]
            for step in steps[steps.index(begin):]:
                if step in ("gathered", "spread"):
                    setattr(stage, step, [[pieces[row] for row in rows] for pieces in getattr(stage, step)])
                elif step == "opened":
                    record.opened = [record.opened[row] for row in rows]
                else:
                    setattr(stage, step, [getattr(stage, step)[row] for row in rows])
            for order in ([0, 1], rows, list(range(len(rows)))):
                stage.order = order
                self.assertNotEqual(self.assert_fact(record), [])

    def test_a_table_of_another_number_of_rows_between_two_stages(self):
        honest = run(7, 3, [[0], [1]], [3, 5], drawn(7, 3, [[0], [1]], [3, 5]))
        fewer = run(7, 3, [[1]], [3], drawn(7, 3, [[1]], [3]))
        record = deepcopy(honest)
        record.stages[1] = fewer.stages[0]
        record.opened = fewer.opened
        record.stages[0].table = fewer.table
        self.assertIn((0, "add", 0, 1), self.assert_fact(record))

    def test_stages_left_out(self):
        for case in RUNS:
            record = run(*case, drawn(*case))
            while record.stages:
                record.stages.pop()
                self.assert_fact(record)

    def test_no_rows(self):
        for family in ([], [[]], [[0], [1]]):
            record = run(7, 3, family, [], drawn(7, 3, family, []))
            self.assertEqual(self.assert_fact(record), [])
            record.opened = [0]
            self.assertEqual(self.assert_fact(record), [(len(family), "open", None, 0)])

    def test_an_honest_record_whose_holders_stand_in_another_order(self):
        record = run(7, 3, [[0]], [3, 6], drawn(7, 3, [[0]], [3, 6]))
        stage = record.stages[0]
        stage.holders = [2, 1]
        for field in ("held", "ordered"):
            setattr(stage, field, [row[::-1] for row in getattr(stage, field)])
        stage.gathered = [[row[::-1] for row in rows] for rows in stage.gathered]
        stage.spread.reverse()
        self.assertEqual(faults(record), [])
        stage.spread[0][1][0] += 1
        stage.spread[1][1][0] += 1
        # The faults are listed by mixers all the same.
        self.assertEqual(faults(record), [(0, "spread", 1, 1), (0, "spread", 2, 1), (0, "add", 0, 1)])

    def test_moved_by_another_order(self):
        record = small_run()
        stage = record.stages[0]
        stage.ordered = moved(stage.held, [1, 0])
        self.assertEqual(self.assert_fact(record)[:2], [(0, "order", 1, 0), (0, "order", 1, 1)])


class CopiesTest(unittest.TestCase):
    """Point 3."""

    def test_a_spoilt_record_stays(self):
        for case in RUNS:
            honest = run(*case, drawn(*case))
            for at in range(len(lists_of(honest))):
                record = deepcopy(honest)
                spoilt(lists_of(record)[at], "taken", 0)
                before = record_fields(record)
                faults(record)
                blamed(record)
                self.assertEqual(record_fields(record), before)


if __name__ == "__main__":
    unittest.main()
