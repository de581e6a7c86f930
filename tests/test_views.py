"""Points 3, 18, 19 and 22: what a lot sees."""

import unittest

from draws import all_lots, drawn, record_fields
from veilcount.coins import RunCoins, StageCoins
from veilcount.lots import cover
from veilcount.runs import last_table, run
from veilcount.views import known_votes, stage_view, view

# A prime, a number of mixers, a family and votes.
RUNS = [
    (2, 1, [], [1, 0]),
    (2, 1, [[]], [1, 0, 1]),
    (3, 2, [[0], []], [2, 1]),
    (7, 3, [[0], [1], [2]], [3, 6, 0]),
    (7, 4, [[0, 1], [], [1, 3]], [3, 6]),
    (101, 5, [[0, 1], [2, 3], [1, 4]], [100, 50, 50, 0]),
    (7, 3, [[0, 2]], []),
]


def small_run():
    """The run whose stage test_stages works out by hand."""
    stage = StageCoins([[[4], [6]]], [1, 0], [[[2, 3], [0, 6]], [[1, 1], [5, 4]]])
    return run(7, 3, [[0]], [3, 6], RunCoins([[5, 6], [1, 2]], [stage]))


# What is in the run of small_run.
LAST = ((3, 4, 6), (5, 3, 2))
SPREAD_OF_1 = ((2, 3, 3), (0, 6, 4))
SPREAD_OF_2 = ((1, 1, 3), (5, 4, 5))
GIFTS_TO_0 = ((2, 0), (1, 5))
GIFTS_TO_1 = ((3, 6), (1, 4))
GIFTS_TO_2 = ((3, 4), (3, 5))


class ByHandTest(unittest.TestCase):

    def assert_view(self, lot, shares, seen):
        record = small_run()
        self.assertEqual(view(record, lot), (shares, (seen,), LAST))
        self.assertEqual(stage_view(record.stages[0], 3, lot), seen)

    def test_the_empty_lot(self):
        self.assert_view([], (), ((), (), ((), None, ()), (), ()))

    def test_no_member_is_a_holder(self):
        self.assert_view([0], ((5, 1),), ((((4, 1), (6, 2)),), (), ((), None, ()), (), (GIFTS_TO_0,)))

    def test_one_holder(self):
        self.assert_view([1], ((6, 2),),
                         ((), (((4, 6),),), (((3, 1),), (1, 0), ((1, 3),)), (SPREAD_OF_1,), (GIFTS_TO_1,)))
        self.assert_view([2], ((6, 3),),
                         ((), (((1, 2),),), (((0, 5),), (1, 0), ((5, 0),)), (SPREAD_OF_2,), (GIFTS_TO_2,)))

    def test_all_but_one(self):
        # Both holders.
        self.assert_view([1, 2], ((6, 2), (6, 3)),
                         ((), (((4, 6),), ((1, 2),)), (((3, 1), (0, 5)), (1, 0), ((1, 3), (5, 0))),
                          (SPREAD_OF_1, SPREAD_OF_2), (GIFTS_TO_1, GIFTS_TO_2)))
        # One that is no holder, and one that is.
        self.assert_view([0, 1], ((5, 1), (6, 2)),
                         ((((4, 1), (6, 2)),), (((4, 6),),), (((3, 1),), (1, 0), ((1, 3),)), (SPREAD_OF_1,),
                          (GIFTS_TO_0, GIFTS_TO_1)))

    def test_all_mixers(self):
        self.assert_view([0, 1, 2], ((5, 1), (6, 2), (6, 3)),
                         ((((4, 1), (6, 2)),), (((4, 6),), ((1, 2),)),
                          (((3, 1), (0, 5)), (1, 0), ((1, 3), (5, 0))),
                          (SPREAD_OF_1, SPREAD_OF_2), (GIFTS_TO_0, GIFTS_TO_1, GIFTS_TO_2)))

    def test_a_run_without_lots(self):
        record = run(7, 3, [], [3, 6], RunCoins([[5, 6], [1, 2]], []))
        self.assertEqual(view(record, []), ((), (), ((5, 6, 6), (1, 2, 3))))
        self.assertEqual(view(record, [0, 2]), (((5, 1), (6, 3)), (), ((5, 6, 6), (1, 2, 3))))

    def test_a_run_without_votes(self):
        record = run(7, 3, [[0], [1]], [], drawn(7, 3, [[0], [1]], []))
        self.assertEqual(view(record, []), ((), (((), (), ((), None, ()), (), ()),) * 2, ()))
        self.assertEqual(view(record, [0]),
                         (((),), ((((),), (), ((), None, ()), (), (((), ()),)),
                                  ((), (((),),), (((),), (), ((),)), ((),), (((), ()),))), ()))

    def test_one_mixer(self):
        record = run(7, 1, [[]], [3, 6], RunCoins([[], []], [StageCoins([], [1, 0], [[[], []]])]))
        self.assertEqual(view(record, [0]), (((3, 6),), (((), ((),), (((3, 6),), (1, 0), ((6, 3),)),
                                                          (((6,), (3,)),), (((6, 3),),)),), ((6,), (3,))))


class DefinitionTest(unittest.TestCase):
    """Each part in the words of points 18 and 19, for all lots, those of the family or not."""

    def test_the_three_parts(self):
        for record, lot in self.records_and_lots():
            found = view(record, lot)
            self.assertEqual(len(found), 3)
            self.assertEqual(found[0], tuple(tuple(row[member] for row in record.table) for member in lot))
            self.assertEqual(found[1], tuple(stage_view(stage, record.mixers, lot) for stage in record.stages))
            self.assertEqual(found[2], tuple(tuple(row) for row in last_table(record)))

    def test_the_five_parts(self):
        for record, lot in self.records_and_lots():
            for stage in record.stages:
                keepers = [mixer for mixer in lot if mixer in stage.holders]
                others = [mixer for mixer in range(record.mixers) if mixer not in stage.holders]
                gathered = dict(zip(others, stage.gathered))
                spread = dict(zip(stage.holders, stage.spread))
                seat = {holder: place for place, holder in enumerate(stage.holders)}
                given, got, ordering, own, new = stage_view(stage, record.mixers, lot)
                self.assertEqual(given, tuple(tuple(tuple(pieces) for pieces in gathered[member])
                                              for member in lot if member not in keepers))
                self.assertEqual(got, tuple(tuple(tuple(pieces[seat[member]] for pieces in gathered[other])
                                                  for other in others) for member in keepers))
                self.assertEqual(ordering[0], tuple(tuple(row[seat[member]] for row in stage.held)
                                                    for member in keepers))
                self.assertEqual(ordering[1], tuple(stage.order) if keepers else None)
                self.assertEqual(ordering[2], tuple(tuple(row[seat[member]] for row in stage.ordered)
                                                    for member in keepers))
                self.assertEqual(len(ordering), 3)
                self.assertEqual(own, tuple(tuple(tuple(pieces) for pieces in spread[member])
                                            for member in keepers))
                self.assertEqual(new, tuple(tuple(tuple(pieces[member] for pieces in spread[holder])
                                                  for holder in stage.holders) for member in lot))

    def test_every_part_is_a_tuple(self):
        for record, lot in self.records_and_lots():
            self.assert_tuples(view(record, lot))

    def test_the_record_stays(self):
        for record, lot in self.records_and_lots():
            before = record_fields(record)
            view(record, lot)
            known_votes(record, lot, list(range(record.mixers)))
            self.assertEqual(record_fields(record), before)

    def records_and_lots(self):
        for prime, mixers, family, votes in RUNS:
            record = run(prime, mixers, family, votes, drawn(prime, mixers, family, votes))
            for lot in all_lots(mixers):
                yield record, lot

    def assert_tuples(self, thing):
        self.assertIn(type(thing), (tuple, int, type(None)))
        if isinstance(thing, tuple):
            for part in thing:
                self.assert_tuples(part)


class KnownVotesTest(unittest.TestCase):
    """Point 22."""

    def test_by_hand(self):
        record = small_run()
        # Without a mixer in both lots, with one, with all in both, and one lot with all.
        for one, other in (([0], [1, 2]), ([1], [0, 2]), ([0, 1], [1, 2]), ([0, 1, 2], [0, 1, 2]), ([0, 1, 2], []),
                           ([], [0, 1, 2]), ([0, 1, 2], [1])):
            self.assertEqual(known_votes(record, one, other), [3, 6])

    def test_all_lots_that_cover(self):
        for prime, mixers, family, votes in RUNS:
            record = run(prime, mixers, family, votes, drawn(prime, mixers, family, votes))
            for one in all_lots(mixers):
                for other in all_lots(mixers):
                    if cover(one, other, mixers):
                        self.assertEqual(known_votes(record, one, other), votes)

    def test_it_is_the_values_of_the_first_table(self):
        # Also where nobody gave these votes.
        record = small_run()
        record.table = [[9, 0, -1], [0, 0, 0]]
        self.assertEqual(known_votes(record, [0, 1], [1, 2]), [1, 0])


if __name__ == "__main__":
    unittest.main()
