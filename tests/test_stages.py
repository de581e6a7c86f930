"""Points 3, 13 and 17: the three steps of a stage, worked out by hand."""

import unittest
from copy import deepcopy
from itertools import permutations

from draws import numbers_from
from veilcount.coins import StageCoins
from veilcount.errors import BadOrder
from veilcount.perms import moved
from veilcount.shares import values_of
from veilcount.stages import (StageRecord, gathered_pieces, held_shares, new_table, outsiders, run_stage,
                              spread_pieces)

# Modulo 7, three mixers, the lot [0]; the rows have the values 3 and 6.
TABLE = [[5, 6, 6], [1, 2, 3]]
HOLDERS = [1, 2]
GATHER = [[[4], [6]]]
PIECES = [[[4, 1], [6, 2]]]
HELD = [[3, 0], [1, 5]]
ORDERED = [[1, 5], [3, 0]]
SPREAD = [[[2, 3], [0, 6]], [[1, 1], [5, 4]]]
SPREAD_PIECES = [[[2, 3, 3], [0, 6, 4]], [[1, 1, 3], [5, 4, 5]]]
NEW_TABLE = [[3, 4, 6], [5, 3, 2]]


def fields(stage):
    return (stage.holders, stage.gathered, stage.held, stage.order, stage.ordered, stage.spread, stage.table)


class StepsTest(unittest.TestCase):

    def test_outsiders(self):
        self.assertEqual(outsiders(3, [1, 2]), [0])
        self.assertEqual(outsiders(5, [2]), [0, 1, 3, 4])
        self.assertEqual(outsiders(2, [0, 1]), [])

    def test_gathered_pieces(self):
        self.assertEqual(gathered_pieces(7, TABLE, [0], GATHER), PIECES)
        # Two mixers split their shares among two holders, the second one among the last two of four mixers.
        self.assertEqual(gathered_pieces(7, [[1, 2, 3, 4], [5, 6, 0, 1]], [0, 2], [[[3], [-1]], [[0], [9]]]),
                         [[[3, 5], [6, 6]], [[0, 3], [2, 5]]])

    def test_held_shares(self):
        self.assertEqual(held_shares(7, TABLE, HOLDERS, PIECES), HELD)
        self.assertEqual(held_shares(7, [[1, 2, 3, 4], [5, 6, 0, 1]], [1, 3], [[[3, 5], [6, 6]], [[0, 3], [2, 5]]]),
                         [[5, 5], [0, 5]])

    def test_spread_pieces(self):
        self.assertEqual(spread_pieces(7, ORDERED, 2, SPREAD), SPREAD_PIECES)
        self.assertEqual(spread_pieces(7, [[3]], 1, [[[-2, 13]]]), [[[5, 6, 6]]])

    def test_new_table(self):
        self.assertEqual(new_table(7, SPREAD_PIECES, 3, 2), NEW_TABLE)
        self.assertEqual(new_table(7, [[[5, 6, 6]]], 3, 1), [[5, 6, 6]])

    def test_no_rows(self):
        self.assertEqual(gathered_pieces(7, [], [0, 1], [[], []]), [[], []])
        self.assertEqual(held_shares(7, [], [2], [[], []]), [])
        self.assertEqual(spread_pieces(7, [], 2, [[], []]), [[], []])
        self.assertEqual(new_table(7, [[], []], 3, 0), [])

    def test_point_3(self):
        given = [TABLE, HOLDERS, GATHER, PIECES, ORDERED, SPREAD, SPREAD_PIECES]
        before = deepcopy(given)
        outsiders(3, HOLDERS).append(9)
        for found in (gathered_pieces(7, TABLE, [0], GATHER), held_shares(7, TABLE, HOLDERS, PIECES),
                      spread_pieces(7, ORDERED, 2, SPREAD), new_table(7, SPREAD_PIECES, 3, 2)):
            found[0][0] = 9
            found[-1].append(9)
            found.append(9)
        self.assertEqual(given, before)


class StageTest(unittest.TestCase):

    def test_a_new_record(self):
        stage = StageRecord(HOLDERS, PIECES, HELD, [1, 0])
        self.assertEqual(fields(stage), (HOLDERS, PIECES, HELD, [1, 0], ORDERED, [], []))

    def test_a_record_with_an_order_of_other_rows(self):
        for order in ([0], [0, 0], [0, 1, 2]):
            self.assertRaises(BadOrder, StageRecord, HOLDERS, PIECES, HELD, order)

    def test_a_record_shares_no_list(self):
        given = deepcopy([HOLDERS, PIECES, HELD, [1, 0]])
        stage = StageRecord(*given)
        for found in (stage.holders, stage.gathered, stage.gathered[0], stage.gathered[0][0], stage.held,
                      stage.held[0], stage.held[1], stage.order):
            found.append(9)
        self.assertEqual(given, [HOLDERS, PIECES, HELD, [1, 0]])
        self.assertEqual(stage.ordered, ORDERED)

    def test_all_fields_of_a_stage(self):
        stage = run_stage(7, 3, TABLE, HOLDERS, StageCoins(GATHER, [1, 0], SPREAD))
        self.assertIsInstance(stage, StageRecord)
        self.assertEqual(fields(stage), (HOLDERS, PIECES, HELD, [1, 0], ORDERED, SPREAD_PIECES, NEW_TABLE))
        self.assertEqual(values_of(7, stage.table), [6, 3])

    def test_the_empty_lot(self):
        # Nobody gathers, so the held shares are the shares.
        stage = run_stage(7, 2, [[5, 6], [1, 2]], [0, 1], StageCoins([], [1, 0], [[[3], [4]], [[0], [6]]]))
        self.assertEqual(fields(stage), ([0, 1], [], [[5, 6], [1, 2]], [1, 0], [[1, 2], [5, 6]],
                                         [[[3, 5], [4, 1]], [[0, 2], [6, 0]]], [[3, 0], [3, 1]]))

    def test_one_holder(self):
        # The holder gets all shares without a coin, so it holds the values of the rows.
        stage = run_stage(7, 3, TABLE, [1], StageCoins([[[], []], [[], []]], [1, 0], [[[1, 2], [3, 4]]]))
        self.assertEqual(fields(stage), ([1], [[[5], [1]], [[6], [3]]], [[3], [6]], [1, 0], [[6], [3]],
                                         [[[1, 2, 3], [3, 4, 3]]], [[1, 2, 3], [3, 4, 3]]))

    def test_one_mixer(self):
        stage = run_stage(7, 1, [[5], [1]], [0], StageCoins([], [1, 0], [[[], []]]))
        self.assertEqual(fields(stage), ([0], [], [[5], [1]], [1, 0], [[1], [5]], [[[1], [5]]], [[1], [5]]))

    def test_no_rows(self):
        stage = run_stage(7, 3, [], HOLDERS, StageCoins([[]], [], [[], []]))
        self.assertEqual(fields(stage), (HOLDERS, [[]], [], [], [], [[], []], []))

    def test_point_17_the_values_stay_but_for_their_order(self):
        table = [[5, 6, 6, 0], [1, 2, 3, 4], [0, 0, 6, 1]]
        for holders in ([0], [2], [0, 3], [1, 2, 3], [0, 1, 2, 3]):
            many = len(holders)
            numbers = numbers_from(many, 200)
            gather = [[[numbers.pop() for _ in range(many - 1)] for _ in table] for _ in range(4 - many)]
            spread = [[[numbers.pop() for _ in range(3)] for _ in table] for _ in range(many)]
            for order in permutations(range(3)):
                stage = run_stage(7, 4, table, holders, StageCoins(gather, list(order), spread))
                self.assertEqual(values_of(7, stage.table), moved(values_of(7, table), list(order)))
                self.assertEqual(values_of(7, stage.held), values_of(7, table))

    def test_point_3_of_a_stage(self):
        table, holders, coins = deepcopy(TABLE), list(HOLDERS), StageCoins(GATHER, [1, 0], SPREAD)
        stage = run_stage(7, 3, table, holders, coins)
        for found in fields(stage):
            found.append(9)
            if isinstance(found[0], list):
                found[0].append(9)
        self.assertEqual((table, holders), (TABLE, HOLDERS))
        self.assertEqual((coins.gather, coins.order, coins.spread), (GATHER, [1, 0], SPREAD))


if __name__ == "__main__":
    unittest.main()
