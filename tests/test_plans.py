"""Points 3, 37 and 38: plans."""

import unittest
from copy import deepcopy

from draws import all_lots, drawn
from veilcount.errors import BadLots
from veilcount.lots import checked_family, covering_pair, holders, lots_of
from veilcount.plans import family_of, guards, sent_in_run, sent_in_stage
from veilcount.runs import run


class FamiliesTest(unittest.TestCase):

    def test_by_hand(self):
        self.assertEqual(family_of(1, 0), [[]])
        self.assertEqual(family_of(3, 0), [[]])
        self.assertEqual(family_of(3, 1), [[0], [1], [2]])
        self.assertEqual(family_of(5, 2), [[0, 1], [0, 2], [0, 3], [0, 4], [1, 2], [1, 3], [1, 4], [2, 3], [2, 4],
                                           [3, 4]])

    def test_all_sizes(self):
        for mixers in range(1, 8):
            for together in range(mixers + 2):
                if 2 * together < mixers:
                    family = family_of(mixers, together)
                    self.assertEqual(checked_family(family, mixers), family)
                    self.assertEqual(family, sorted(lot for lot in all_lots(mixers) if len(lot) == together))
                else:
                    with self.assertRaises(BadLots) as caught:
                        family_of(mixers, together)
                    self.assertEqual((caught.exception.first, caught.exception.second), (None, None))

    def test_it_is_a_family_only_there(self):
        for mixers in range(1, 7):
            for together in range(mixers + 1):
                self.assertEqual(covering_pair(lots_of(mixers, together), mixers) is None, 2 * together < mixers)

    def test_two_times_the_size_is_the_number_of_mixers(self):
        for mixers in (2, 4, 6):
            self.assertRaises(BadLots, family_of, mixers, mixers // 2)
            self.assertEqual(len(family_of(mixers + 1, mixers // 2)), len(lots_of(mixers + 1, mixers // 2)))


class GuardsTest(unittest.TestCase):

    def test_by_hand(self):
        family = [[0], [0, 1], [], [2], [0, 1]]
        self.assertEqual(guards(family, [0]), [0, 1, 4])
        self.assertEqual(guards(family, [0, 1]), [1, 4])
        self.assertEqual(guards(family, []), [0, 1, 2, 3, 4])
        self.assertEqual(guards(family, [2]), [3])

    def test_a_lot_that_no_stage_guards(self):
        self.assertEqual(guards([[0], [1], [2]], [0, 1]), [])
        self.assertEqual(guards([[0], [1]], [2]), [])
        self.assertEqual(guards([[]], [0]), [])
        self.assertEqual(guards([], []), [])

    def test_none_of_the_holders_is_in_the_lot(self):
        for mixers in range(1, 6):
            family = all_lots(mixers)[::-1]
            for lot in all_lots(mixers):
                due = [place for place, other in enumerate(family)
                       if not any(holder in lot for holder in holders(other, mixers))]
                self.assertEqual(guards(family, lot), due)

    def test_each_lot_of_a_family_has_a_stage_that_guards_it(self):
        for mixers in range(1, 8):
            for together in range((mixers + 1) // 2):
                family = family_of(mixers, together)
                for place, lot in enumerate(family):
                    self.assertEqual(guards(family, lot), [place])
                    if lot:
                        self.assertIn(place, guards(family, lot[1:]))


def counted(record):
    """The numbers that are sent in a run, one by one: (sender, receiver) each time."""
    rows = range(len(record.table))
    voters = [("voter", mixer) for _ in rows for mixer in range(record.mixers)]
    stages = []
    for stage in record.stages:
        others = [mixer for mixer in range(record.mixers) if mixer not in stage.holders]
        sent = [(mixer, holder) for mixer, pieces in zip(others, stage.gathered) for row in rows
                for holder, _ in zip(stage.holders, pieces[row])]
        sent += [(holder, mixer) for holder, pieces in zip(stage.holders, stage.spread) for row in rows
                 for mixer in range(len(pieces[row])) if mixer != holder]
        stages.append(sent)
    board = [(mixer, "board") for row in rows for mixer in range(record.mixers)]
    return voters, stages, board


class SentTest(unittest.TestCase):
    """Point 38."""

    def test_by_hand(self):
        # Mixer 0 sends to the holders 1 and 2, and each of them to two others.
        self.assertEqual(sent_in_stage(3, [0], 1), 2 + 4)
        self.assertEqual(sent_in_stage(3, [0], 5), 10 + 20)
        # One holder: the two others send to it, and it sends to both.
        self.assertEqual(sent_in_stage(3, [0, 2], 2), 4 + 4)
        # The empty lot: nobody gathers.
        self.assertEqual(sent_in_stage(3, [], 2), 12)
        self.assertEqual(sent_in_stage(5, [1, 4], 3), 2 * 3 * 3 + 3 * 4 * 3)
        self.assertEqual(sent_in_run(3, [[0], [], [0, 2]], 2), 6 + 12 + 12 + 8 + 6)

    def test_no_rows_no_lots_and_one_mixer(self):
        self.assertEqual(sent_in_stage(3, [0], 0), 0)
        self.assertEqual(sent_in_run(3, [[0], [1]], 0), 0)
        self.assertEqual(sent_in_run(3, [], 4), 24)
        self.assertEqual(sent_in_run(3, [], 0), 0)
        self.assertEqual(sent_in_stage(1, [], 4), 0)
        self.assertEqual(sent_in_run(1, [[], []], 4), 8)

    def test_one_by_one(self):
        for mixers, family in ((1, []), (1, [[]]), (2, [[0], []]), (3, [[0], [1], [2]]), (3, [[0, 2], []]),
                               (4, [[0, 1], [], [1, 3]]), (5, [[0, 1], [2, 3], [1, 4]])):
            for rows in range(4):
                votes = [1] * rows
                voters, stages, board = counted(run(7, mixers, family, votes, drawn(7, mixers, family, votes)))
                for lot, sent in zip(family, stages):
                    self.assertEqual(sent_in_stage(mixers, lot, rows), len(sent))
                self.assertEqual(sent_in_run(mixers, family, rows),
                                 len(voters) + sum(len(sent) for sent in stages) + len(board))


class CopiesTest(unittest.TestCase):
    """Point 3."""

    def test_what_is_passed_in_stays(self):
        family, lot = [[0], [1, 2]], [1]
        before = deepcopy((family, lot))
        guards(family, lot).append(9)
        sent_in_stage(3, lot, 2)
        sent_in_run(3, family, 2)
        family_of(3, 1)[0].append(9)
        self.assertEqual((family, lot), before)
        self.assertEqual(family_of(3, 1), [[0], [1], [2]])


if __name__ == "__main__":
    unittest.main()
