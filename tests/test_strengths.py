"""Points 3, 28 and 56: strengths."""

import unittest
from copy import deepcopy
from itertools import permutations, product

from draws import numbers_from
from veilcount.strengths import chain_of, strengths, strongest, wins
from veilcount.tallies import beats_all, pairs

# Each of three wins against the next one, by 5 of 9, 6 of 9 and 7 of 9.
CYCLE = [[0, 1, 2]] * 2 + [[1, 2, 0]] * 4 + [[2, 0, 1]] * 3


def some_rankings(options, many, seed):
    every = [list(ranking) for ranking in permutations(range(options))]
    return [every[number % len(every)] for number in numbers_from(seed, many)]


def rankings_with(edges, options):
    """Rankings with just these wins, all of them by the same number: two rankings for each, else turned around."""
    rankings = []
    for one, other in edges:
        rest = [option for option in range(options) if option not in (one, other)]
        rankings += [[one, other] + rest, rest[::-1] + [one, other]]
    return rankings


def all_chains(rankings, options, start, end):
    """All chains from an option to another one, with their strengths."""
    table = wins(rankings, options)
    others = [option for option in range(options) if option not in (start, end)]
    for many in range(options - 1):
        for between in permutations(others, many):
            chain = [start, *between, end]
            numbers = [table[one][other] for one, other in zip(chain, chain[1:])]
            if 0 not in numbers:
                yield chain, min(numbers)


def some_cases():
    """Rankings and how many options they have: of up to five options, with cycles, ties and few votes."""
    for options in range(1, 4):
        every = [list(ranking) for ranking in permutations(range(options))]
        for many in range(4):
            for rankings in product(every, repeat=many):
                yield list(rankings), options
    for options, many, seed in product((3, 4, 5), (3, 4, 7, 10), range(6)):
        yield some_rankings(options, many, seed), options


class WinsTest(unittest.TestCase):

    def test_by_hand(self):
        self.assertEqual(wins([[0, 1, 2], [1, 0, 2], [0, 2, 1]], 3), [[0, 2, 3], [0, 0, 2], [0, 0, 0]])
        # None wins where as many rankings have it ahead as behind.
        self.assertEqual(wins([[0, 1], [1, 0]], 2), [[0, 0], [0, 0]])
        self.assertEqual(wins(CYCLE, 3), [[0, 5, 0], [0, 0, 6], [7, 0, 0]])

    def test_no_options_and_no_rankings(self):
        self.assertEqual(wins([], 0), [])
        self.assertEqual(wins([], 1), [[0]])
        self.assertEqual(wins([[0]], 1), [[0]])
        self.assertEqual(wins([], 3), [[0] * 3] * 3)

    def test_by_the_pair_table(self):
        for rankings, options in some_cases():
            table, found = pairs(rankings, options), wins(rankings, options)
            for one, other in product(range(options), repeat=2):
                due = table[one][other] if table[one][other] > table[other][one] else 0
                self.assertEqual(found[one][other], due)


class StrengthsTest(unittest.TestCase):

    def test_no_options_and_one_option(self):
        self.assertEqual(strengths([], 0), [])
        self.assertEqual(strengths([[], []], 0), [])
        self.assertEqual(strengths([[0]] * 3, 1), [[0]])

    def test_options_of_which_none_wins(self):
        self.assertEqual(strengths([], 3), [[0] * 3] * 3)
        self.assertEqual(strengths([[0, 1, 2], [2, 1, 0]], 3), [[0] * 3] * 3)

    def test_a_cycle_of_three(self):
        # From 1 to 0 by 2: 6 and 7; from 0 to 2 by 1: 5 and 6; from 2 to 1 by 0: 7 and 5.
        self.assertEqual(strengths(CYCLE, 3), [[0, 5, 5], [6, 0, 6], [7, 5, 0]])

    def test_a_chain_that_is_stronger_than_the_direct_win(self):
        # 0 wins against 2 by 3 of 5 only, but against 1 by 4, and 1 against 2 by 4.
        rankings = [[0, 1, 2]] * 3 + [[1, 2, 0]] + [[2, 0, 1]]
        self.assertEqual(pairs(rankings, 3), [[0, 4, 3], [1, 0, 4], [2, 1, 0]])
        self.assertEqual(strengths(rankings, 3), [[0, 4, 4], [0, 0, 4], [0, 0, 0]])
        self.assertEqual(chain_of(rankings, 3, 0, 2), [0, 1, 2])

    def test_by_all_chains(self):
        for rankings, options in some_cases():
            found = strengths(rankings, options)
            for start, end in product(range(options), repeat=2):
                due = 0
                if start != end:
                    due = max([strength for _, strength in all_chains(rankings, options, start, end)], default=0)
                self.assertEqual(found[start][end], due)


class StrongestTest(unittest.TestCase):

    def test_no_options_and_one_option(self):
        self.assertEqual(strongest([], 0), [])
        self.assertEqual(strongest([], 1), [0])
        self.assertEqual(strongest([[0]], 1), [0])

    def test_options_of_which_none_wins(self):
        self.assertEqual(strongest([], 3), [0, 1, 2])
        self.assertEqual(strongest([[0, 1, 2], [2, 1, 0]], 3), [0, 1, 2])

    def test_a_cycle_of_three(self):
        self.assertEqual(strongest(CYCLE, 3), [1])
        self.assertIsNone(beats_all(CYCLE, 3))
        self.assertEqual(strongest([[0, 1, 2], [1, 2, 0], [2, 0, 1]], 3), [0, 1, 2])

    def test_by_the_strengths(self):
        for rankings, options in some_cases():
            table = strengths(rankings, options)
            due = [option for option in range(options)
                   if not any(table[other][option] > table[option][other] for other in range(options))]
            self.assertEqual(strongest(rankings, options), due)

    def test_there_is_always_a_strongest_one(self):
        for rankings, options in some_cases():
            self.assertNotEqual(strongest(rankings, options), [])

    def test_an_option_that_beats_all_is_the_only_one(self):
        seen = 0
        for rankings, options in some_cases():
            best = beats_all(rankings, options)
            if best is not None:
                seen += 1
                self.assertEqual(strongest(rankings, options), [best])
        self.assertGreater(seen, 50)


class ChainsTest(unittest.TestCase):

    def test_no_chain(self):
        self.assertIsNone(chain_of([[0, 1]], 2, 1, 0))
        self.assertIsNone(chain_of([], 2, 0, 1))
        self.assertIsNone(chain_of([[0, 1], [1, 0]], 2, 0, 1))

    def test_an_option_to_itself(self):
        for option in range(3):
            self.assertIsNone(chain_of(CYCLE, 3, option, option))
        self.assertIsNone(chain_of([[0]], 1, 0, 0))

    def test_a_cycle_of_three(self):
        self.assertEqual(chain_of(CYCLE, 3, 0, 1), [0, 1])
        self.assertEqual(chain_of(CYCLE, 3, 0, 2), [0, 1, 2])
        self.assertEqual(chain_of(CYCLE, 3, 1, 0), [1, 2, 0])
        self.assertEqual(chain_of(CYCLE, 3, 2, 1), [2, 0, 1])

    def test_the_direct_win_if_no_chain_is_stronger(self):
        # Each of them wins against all behind it by all rankings.
        self.assertEqual(chain_of([[0, 1, 2, 3]] * 4, 4, 0, 3), [0, 3])
        self.assertEqual(chain_of([[0, 1, 2, 3]] * 4, 4, 1, 3), [1, 3])

    def test_strong_and_with_as_few_options_as_possible(self):
        lengths = set()
        for rankings, options in some_cases():
            table = strengths(rankings, options)
            for start, end in product(range(options), repeat=2):
                chain = chain_of(rankings, options, start, end)
                if start == end or table[start][end] == 0:
                    self.assertIsNone(chain)
                    continue
                chains = [other for other, strength in all_chains(rankings, options, start, end)
                          if strength == table[start][end]]
                self.assertIn(chain, chains)
                self.assertEqual(len(chain), min(len(other) for other in chains))
                lengths.add(len(chain))
        self.assertGreaterEqual(lengths, {2, 3, 4})


    def test_a_shorter_chain_by_another_option(self):
        # From 0 by 1 to 3 there are three options, and by 2 and 4 there are four.
        for edges in ([(0, 1), (0, 2), (1, 3), (2, 4), (4, 3)], [(0, 2), (0, 1), (2, 3), (1, 4), (4, 3)]):
            rankings = rankings_with(edges, 5)
            self.assertEqual(chain_of(rankings, 5, 0, 3), [0, edges[2][0], 3])

    def test_all_wins_of_five_options_with_the_same_number(self):
        every = [pair for pair in permutations(range(5), 2) if pair[0] < pair[1]]
        for seed in range(60):
            turns = numbers_from(seed, len(every), spread=3)
            edges = [pair if turn > 0 else pair[::-1] for pair, turn in zip(every, turns) if turn]
            rankings = rankings_with(edges, 5)
            self.assertEqual({pair for pair in permutations(range(5), 2) if wins(rankings, 5)[pair[0]][pair[1]]},
                             set(edges))
            for start, end in permutations(range(5), 2):
                lengths = [len(chain) for chain, _ in all_chains(rankings, 5, start, end)]
                chain = chain_of(rankings, 5, start, end)
                self.assertEqual(None if chain is None else len(chain), min(lengths, default=None))


class CopiesTest(unittest.TestCase):
    """Point 3."""

    def test_rankings_stay(self):
        rankings = deepcopy(CYCLE)
        wins(rankings, 3)[0].append(9)
        strengths(rankings, 3)[0].append(9)
        strongest(rankings, 3).append(9)
        chain_of(rankings, 3, 0, 2).append(9)
        self.assertEqual(rankings, CYCLE)
        self.assertEqual(strengths(rankings, 3), [[0, 5, 5], [6, 0, 6], [7, 5, 0]])


if __name__ == "__main__":
    unittest.main()
