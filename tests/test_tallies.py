"""Points 3, 26, 27, 28 and 29: counts, runoffs, pair tables and points."""

import unittest
from copy import deepcopy
from itertools import permutations, product

from draws import drawn, numbers_from
from veilcount.ballots import ballot_number, ballot_prime, is_ahead, ranking_of
from veilcount.runs import run
from veilcount.tallies import beats_all, counts, first_counts, leaders, pairs, points, runoff, weakest


def some_rankings(options, many, seed):
    """Many rankings, always the same ones."""
    every = [list(ranking) for ranking in permutations(range(options))]
    return [every[number % len(every)] for number in numbers_from(seed, many)]


class CountsTest(unittest.TestCase):
    """Point 26."""

    def test_counts(self):
        self.assertEqual(counts([0, 2, 2, 1, 2], 3), [1, 1, 3])
        self.assertEqual(counts([2, 2], 4), [0, 0, 2, 0])

    def test_values_that_are_no_options_are_left_out(self):
        self.assertEqual(counts([-1, 0, 3, 2, -3, 10 ** 30, -10 ** 30], 3), [1, 0, 1])
        self.assertEqual(counts([5, -1], 2), [0, 0])

    def test_no_options_and_no_values(self):
        self.assertEqual(counts([0, 1, -1], 0), [])
        self.assertEqual(counts([], 0), [])
        self.assertEqual(counts([], 3), [0, 0, 0])

    def test_leaders(self):
        self.assertEqual(leaders([1, 3, 2]), [1])
        self.assertEqual(leaders([3, 1, 3, 3]), [0, 2, 3])
        self.assertEqual(leaders([0]), [0])
        # All have the greatest count.
        self.assertEqual(leaders([0, 0]), [0, 1])

    def test_no_numbers(self):
        self.assertEqual(leaders([]), [])

    def test_numbers_below_0(self):
        self.assertEqual(leaders([-3, -1, -2, -1]), [1, 3])


class RunoffTest(unittest.TestCase):
    """Point 27."""

    def test_first_counts(self):
        rankings = [[2, 0, 1], [0, 1, 2], [2, 1, 0]]
        self.assertEqual(first_counts(rankings, [0, 1, 2]), [1, 0, 2])
        self.assertEqual(first_counts(rankings, [0, 1]), [2, 1])
        self.assertEqual(first_counts(rankings, [1, 2]), [1, 2])
        self.assertEqual(first_counts(rankings, [1]), [3])
        self.assertEqual(first_counts(rankings, []), [])
        self.assertEqual(first_counts([], [0, 2]), [0, 0])

    def test_weakest(self):
        self.assertEqual(weakest([0, 1, 2], [3, 1, 2]), 1)
        self.assertEqual(weakest([0, 2, 5], [3, 2, 1]), 5)
        self.assertEqual(weakest([3], [0]), 3)
        self.assertIsNone(weakest([], []))

    def test_of_several_the_last_one_goes(self):
        self.assertEqual(weakest([0, 1, 2], [1, 1, 2]), 1)
        self.assertEqual(weakest([0, 1, 4], [1, 2, 1]), 4)
        self.assertEqual(weakest([0, 1, 2], [0, 0, 0]), 2)

    def test_no_options(self):
        self.assertEqual(runoff([], 0), ([], None))
        self.assertEqual(runoff([[], []], 0), ([], None))

    def test_one_option(self):
        self.assertEqual(runoff([], 1), ([([0], [0], None)], 0))
        self.assertEqual(runoff([[0], [0]], 1), ([([0], [2], None)], 0))

    def test_no_rankings(self):
        self.assertEqual(runoff([], 3), ([([0, 1, 2], [0, 0, 0], 2), ([0, 1], [0, 0], 1), ([0], [0], None)], 0))

    def test_a_winner_at_once(self):
        rankings = [[1, 0, 2], [1, 2, 0], [0, 1, 2]]
        self.assertEqual(runoff(rankings, 3), ([([0, 1, 2], [1, 2, 0], None)], 1))

    def test_just_a_half_does_not_win(self):
        rankings = [[1, 0, 2], [1, 2, 0], [0, 1, 2], [2, 0, 1]]
        # Both 0 and 2 have the least count; 2 goes, and its ranking counts for 0.
        self.assertEqual(runoff(rankings, 3),
                         ([([0, 1, 2], [1, 2, 1], 2), ([0, 1], [2, 2], 1), ([0], [4], None)], 0))

    def test_just_a_half_of_two_options(self):
        self.assertEqual(runoff([[1, 0], [0, 1]], 2), ([([0, 1], [1, 1], 1), ([0], [2], None)], 0))

    def test_one_more_than_a_half(self):
        rankings = [[1, 0, 2]] * 3 + [[0, 1, 2]] * 2
        self.assertEqual(runoff(rankings, 3), ([([0, 1, 2], [2, 3, 0], None)], 1))
        rankings = [[1, 0, 2]] * 3 + [[0, 1, 2]] * 3
        self.assertEqual(runoff(rankings, 3)[0][0], ([0, 1, 2], [3, 3, 0], 2))

    def test_several_rounds(self):
        rankings = ([[0, 1, 2, 3]] * 4 + [[1, 2, 0, 3]] * 3 + [[3, 2, 1, 0]] * 3 + [[2, 3, 1, 0]] * 2)
        self.assertEqual(runoff(rankings, 4), ([([0, 1, 2, 3], [4, 3, 2, 3], 2), ([0, 1, 3], [4, 3, 5], 1),
                                               ([0, 3], [7, 5], None)], 0))

    def test_the_rounds_are_as_the_point_says(self):
        for options in range(1, 5):
            for seed in range(30):
                rankings = some_rankings(options, seed % 8, seed)
                rounds, winner = runoff(rankings, options)
                left = list(range(options))
                for place, (found, numbers, gone) in enumerate(rounds):
                    self.assertEqual(found, left)
                    firsts = [min(left, key=ranking.index) for ranking in rankings]
                    self.assertEqual(numbers, [firsts.count(option) for option in left])
                    wins = [option for option, number in zip(left, numbers)
                            if number > len(rankings) - number or len(left) == 1]
                    if place < len(rounds) - 1:
                        self.assertEqual(wins, [])
                        self.assertEqual(gone, min(reversed(left), key=lambda option: numbers[left.index(option)]))
                        left = [option for option in left if option != gone]
                    else:
                        self.assertIsNone(gone)
                        self.assertEqual(wins, [winner])


class PairsTest(unittest.TestCase):
    """Point 28."""

    def test_by_hand(self):
        rankings = [[2, 0, 1], [0, 1, 2], [2, 1, 0]]
        self.assertEqual(pairs(rankings, 3), [[0, 2, 1], [1, 0, 1], [2, 2, 0]])
        self.assertEqual(points(rankings, 3), [3, 2, 4])
        self.assertEqual(beats_all(rankings, 3), 2)

    def test_no_options(self):
        for rankings in ([], [[], []]):
            self.assertEqual(pairs(rankings, 0), [])
            self.assertIsNone(beats_all(rankings, 0))
            self.assertEqual(points(rankings, 0), [])

    def test_one_option(self):
        for rankings in ([], [[0], [0]]):
            self.assertEqual(pairs(rankings, 1), [[0]])
            self.assertEqual(beats_all(rankings, 1), 0)
            self.assertEqual(points(rankings, 1), [0])

    def test_no_rankings(self):
        self.assertEqual(pairs([], 3), [[0, 0, 0], [0, 0, 0], [0, 0, 0]])
        self.assertIsNone(beats_all([], 3))
        self.assertEqual(points([], 3), [0, 0, 0])

    def test_no_option_beats_all_at_a_tie(self):
        self.assertIsNone(beats_all([[0, 1], [1, 0]], 2))
        # Option 1 beats 2, and is even with 0.
        self.assertIsNone(beats_all([[0, 1, 2], [1, 2, 0]], 3))

    def test_no_option_beats_all_in_a_circle(self):
        self.assertIsNone(beats_all([[0, 1, 2], [1, 2, 0], [2, 0, 1]], 3))

    def test_an_option_beats_all_without_a_first_place(self):
        self.assertEqual(beats_all([[0, 3, 1, 2], [1, 3, 2, 0], [2, 3, 0, 1]], 4), 3)

    def test_as_the_point_says(self):
        for options in range(6):
            for seed in range(12):
                rankings = some_rankings(options, seed, seed)
                table = pairs(rankings, options)
                due = [[sum(is_ahead(ranking, option, other) for ranking in rankings) for other in range(options)]
                       for option in range(options)]
                self.assertEqual(table, due)
                beating = [option for option in range(options)
                           if all(due[option][other] > len(rankings) - due[option][other]
                                  for other in range(options) if other != option)]
                self.assertEqual([beats_all(rankings, options)] if beating else [], beating)
                if not beating:
                    self.assertIsNone(beats_all(rankings, options))
                self.assertEqual(points(rankings, options),
                                 [sum(options - 1 - ranking.index(option) for ranking in rankings)
                                  for option in range(options)])

    def test_the_rows_of_the_table_are_lists_of_their_own(self):
        table = pairs([], 3)
        table[0][1] += 1
        self.assertEqual(table, [[0, 1, 0], [0, 0, 0], [0, 0, 0]])


class OpenedTest(unittest.TestCase):
    """Points 25 and 29: what is told of the opened values is told of the votes."""

    def test_tallies_of_the_opened_values(self):
        for options, mixers, family in ((2, 3, [[0], [1], [2]]), (3, 2, [[0], []]), (4, 4, [[0, 1], [1, 2]])):
            prime = ballot_prime(options)
            for seed in range(6):
                rankings = some_rankings(options, seed + 1, seed)
                votes = [ballot_number(ranking) for ranking in rankings]
                opened = run(prime, mixers, family, votes, drawn(prime, mixers, family, votes, seed)).opened
                found = [ranking_of(options, value) for value in opened]
                self.assertEqual(counts(opened, prime), counts(votes, prime))
                self.assertEqual(leaders(counts(opened, prime)), leaders(counts(votes, prime)))
                for told in (runoff, pairs, points, beats_all):
                    self.assertEqual(told(found, options), told(rankings, options))


class CopiesTest(unittest.TestCase):
    """Point 3."""

    def test_what_is_passed_in_stays(self):
        values, rankings, left, numbers = [0, 1, 5], [[2, 0, 1], [0, 1, 2]], [0, 1, 2], [1, 0, 1]
        before = deepcopy((values, rankings, left, numbers))
        counts(values, 3).append(9)
        leaders(numbers).append(9)
        first_counts(rankings, left).append(9)
        weakest(left, numbers)
        rounds, _ = runoff(rankings, 3)
        for found, many, _ in rounds:
            found.append(9)
            many.append(9)
        pairs(rankings, 3)[0].append(9)
        points(rankings, 3).append(9)
        beats_all(rankings, 3)
        self.assertEqual((values, rankings, left, numbers), before)

    def test_the_lists_of_the_rounds_are_their_own(self):
        rounds, _ = runoff([], 3)
        again, _ = runoff([], 3)
        rounds[0][0].append(9)
        rounds[0][1].append(9)
        self.assertEqual(rounds[1:], again[1:])

    def test_all_small_elections_have_a_winner(self):
        every = [list(ranking) for ranking in permutations(range(3))]
        for many in range(4):
            for rankings in product(every, repeat=many):
                rounds, winner = runoff(list(rankings), 3)
                self.assertIn(winner, rounds[-1][0])
                self.assertIsNone(rounds[-1][2])


if __name__ == "__main__":
    unittest.main()
