"""Points 3, 20, 21, 39 and 40: stories."""

import unittest
from itertools import permutations, product

from draws import all_lots, drawn, parts
from veilcount.coins import coins_of, flat, size
from veilcount.errors import BadCoins, BadLots, BadOrder, BadPrime, BadValue
from veilcount.perms import factorial, matching
from veilcount.runs import run
from veilcount.stories import exchanged, kinds_of, next_row, rows_of, stories, story_count
from veilcount.swaps import swapped
from veilcount.tallies import counts
from veilcount.views import view

# Votes of every kind: none, one, all alike, all different, some alike.
VOTES = [[], [4], [2, 2, 2], [0, 0, 0, 0], [3, 1, 2], [0, 1, 2, 3], [1, 0, 1], [2, 5, 5, 2], [9, 0, 9, 9, 1]]

# A prime, a number of mixers, a family and votes.
RUNS = [
    (2, 1, [[]], [1, 0, 1]),
    (3, 2, [[0]], [2, 1]),
    (3, 2, [[0], []], [2, 1, 2]),
    (5, 3, [[0], [1], [2]], [3, 4, 0]),
    (7, 3, [[], [0, 2]], [3, 3]),
    (7, 4, [[0, 1], [], [1, 3]], [6, 6, 1, 6]),
    (11, 5, [[0, 1], [2, 3], [1, 4]], [10, 0, 0, 10]),
    (7, 3, [[1]], []),
]


def plain_rows(votes):
    """All different rows with the same count, in the order of lists, by trying all orders."""
    return sorted({row for row in permutations(votes)})


def inside(mixers, family):
    """All lots within the family."""
    return [lot for lot in all_lots(mixers) if any(set(lot) <= set(other) for other in family)]


class RowsTest(unittest.TestCase):
    """Point 39: the rows of votes with the same count."""

    def test_kinds(self):
        self.assertEqual(kinds_of([]), [])
        self.assertEqual(kinds_of([4]), [4])
        self.assertEqual(kinds_of([2, 2, 2]), [2])
        self.assertEqual(kinds_of([9, 0, 10, 9, 1, 0]), [0, 1, 9, 10])

    def test_rows_by_hand(self):
        self.assertEqual(rows_of([]), [[]])
        self.assertEqual(rows_of([4]), [[4]])
        self.assertEqual(rows_of([2, 2, 2]), [[2, 2, 2]])
        self.assertEqual(rows_of([1, 0]), [[0, 1], [1, 0]])
        self.assertEqual(rows_of([5, 1, 5]), [[1, 5, 5], [5, 1, 5], [5, 5, 1]])
        self.assertEqual(rows_of([2, 0, 1]), [[0, 1, 2], [0, 2, 1], [1, 0, 2], [1, 2, 0], [2, 0, 1], [2, 1, 0]])

    def test_rows_of_numbers_with_more_figures(self):
        # The order of lists is that of numbers, not of figures.
        self.assertEqual(rows_of([10, 9]), [[9, 10], [10, 9]])

    def test_all_rows_each_once_in_the_order_of_lists(self):
        for votes in VOTES + [list(votes) for many in range(6) for votes in product(range(3), repeat=many)]:
            rows = rows_of(votes)
            self.assertEqual([tuple(row) for row in rows], plain_rows(votes))
            self.assertIn(votes, rows)
            for row in rows:
                self.assertEqual(counts(row, 10), counts(votes, 10))

    def test_number_of_stories(self):
        self.assertEqual(story_count([]), 1)
        self.assertEqual(story_count([4]), 1)
        self.assertEqual(story_count([2, 2, 2]), 1)
        self.assertEqual(story_count([0, 1, 2, 3]), 24)
        self.assertEqual(story_count([1, 0, 1, 0, 1]), 10)
        # 20! / (10! * 6! * 4!)
        self.assertEqual(story_count([0] * 10 + [1] * 6 + [2] * 4), 38798760)
        for votes in VOTES:
            self.assertEqual(story_count(votes), len(rows_of(votes)))

    def test_number_by_the_numbers_of_orders(self):
        for votes in product(range(4), repeat=5):
            alike = 1
            for vote in range(4):
                alike *= factorial(votes.count(vote))
            self.assertEqual(story_count(list(votes)) * alike, factorial(5))

    def test_next_row_by_hand(self):
        self.assertEqual(next_row([0, 1, 2]), [0, 2, 1])
        self.assertEqual(next_row([0, 2, 1]), [1, 0, 2])
        self.assertEqual(next_row([1, 3, 3, 2, 0]), [2, 0, 1, 3, 3])
        self.assertEqual(next_row([1, 1, 2]), [1, 2, 1])
        self.assertEqual(next_row([2, 1, 1, 2]), [2, 1, 2, 1])

    def test_next_row_of_the_last_row(self):
        for votes in ([], [4], [2, 2, 2], [2, 1, 0], [5, 5, 1, 1]):
            self.assertIsNone(next_row(votes))

    def test_next_rows_one_after_another(self):
        for votes in VOTES:
            rows = rows_of(votes)
            for row, following in zip(rows, rows[1:]):
                self.assertEqual(next_row(row), following)
            self.assertIsNone(next_row(rows[-1]))

    def test_exchanged(self):
        self.assertEqual(exchanged([7, 8, 9], 0, 2), [9, 8, 7])
        self.assertEqual(exchanged([7, 8, 9], 2, 0), [9, 8, 7])
        self.assertEqual(exchanged([7, 8, 9], 1, 2), [7, 9, 8])
        self.assertEqual(exchanged([7, 8, 9], 1, 1), [7, 8, 9])
        self.assertEqual(exchanged([7], 0, 0), [7])


class StoriesTest(unittest.TestCase):
    """Points 39 and 40: the coins of the stories."""

    def test_a_story_for_each_row(self):
        for prime, mixers, family, votes in RUNS:
            coins = drawn(prime, mixers, family, votes)
            for lot in inside(mixers, family):
                told = stories(prime, mixers, family, lot, votes, coins)
                self.assertIsInstance(told, list)
                self.assertTrue(all(isinstance(pair, tuple) for pair in told))
                self.assertEqual([story for story, _ in told], rows_of(votes))

    def test_the_coins_are_those_of_point_20(self):
        for prime, mixers, family, votes in RUNS:
            coins = drawn(prime, mixers, family, votes)
            for lot in inside(mixers, family):
                for story, other in stories(prime, mixers, family, lot, votes, coins):
                    self.assertEqual(parts(other), parts(swapped(prime, mixers, family, lot, votes, story, coins)))
                    order = matching(story, votes)
                    self.assertEqual(parts(other),
                                     parts(swapped(prime, mixers, family, lot, votes, story, coins, order)))

    def test_the_same_view_of_each_story(self):
        for prime, mixers, family, votes in RUNS:
            for seed in range(3):
                coins = drawn(prime, mixers, family, votes, seed)
                record = run(prime, mixers, family, votes, coins)
                for lot in inside(mixers, family):
                    for story, other in stories(prime, mixers, family, lot, votes, coins):
                        again = run(prime, mixers, family, story, other)
                        self.assertEqual(view(again, lot), view(record, lot))
                        self.assertEqual(again.opened, record.opened)

    def test_the_votes_are_a_story_with_their_own_coins(self):
        for prime, mixers, family, votes in RUNS:
            coins = drawn(prime, mixers, family, votes)
            numbers = flat(coins)
            for stage in coins.stages:
                stage.spread = [[[coin + prime for coin in row] for row in rows] for rows in stage.spread]
            for lot in inside(mixers, family):
                told = [other for story, other in stories(prime, mixers, family, lot, votes, coins) if story == votes]
                self.assertEqual([flat(other) for other in told], [numbers])

    def test_different_coins_have_different_other_coins(self):
        # All coins of a run of two mixers and two votes modulo 2; the lot is that of the only stage.
        family, votes = [[0]], [1, 0]
        many = size(2, family, 2)
        found = {}
        views = {}
        for numbers in product(range(2), repeat=many):
            coins = coins_of(list(numbers), prime=2, mixers=2, family=family, rows=2)
            for story, other in stories(2, 2, family, [0], votes, coins):
                found.setdefault(tuple(story), set()).add(tuple(flat(other)))
            for story in rows_of(votes):
                seen = view(run(2, 2, family, story, coins), [0])
                views.setdefault(seen, []).append(tuple(story))
        self.assertEqual(sorted(found), [(0, 1), (1, 0)])
        for others in found.values():
            self.assertEqual(len(others), 2 ** many)
        # So for each view each story has equally many coins.
        for told in views.values():
            self.assertEqual(told.count((0, 1)), told.count((1, 0)))

    def test_each_view_has_equally_many_coins_for_each_story(self):
        # Two stages and a lot that only the second one guards.
        family, votes, lot = [[], [1]], [2, 0], [1]
        many = size(2, family, 2)
        views = {}
        # The coins of the voters and both orders change, and the first pieces of each stage.
        for numbers in product(range(3), range(3), range(2), range(3), range(3), range(2)):
            whole = [0] * many
            for place, number in zip((0, 1, 2, 3, 4, 7), numbers):
                whole[place] = number
            coins = coins_of(whole, prime=3, mixers=2, family=family, rows=2)
            seen = view(run(3, 2, family, votes, coins), lot)
            views.setdefault(seen, set()).add(tuple(flat(coins)))
            told = dict((tuple(story), other) for story, other in stories(3, 2, family, lot, votes, coins))
            self.assertEqual(view(run(3, 2, family, [0, 2], told[0, 2]), lot), seen)
        for coins in views.values():
            others = set()
            for numbers in coins:
                whole = coins_of(list(numbers), prime=3, mixers=2, family=family, rows=2)
                others.add(tuple(flat(swapped(3, 2, family, lot, votes, [0, 2], whole))))
            self.assertEqual(len(others), len(coins))

    def test_a_lot_that_is_in_no_lot_of_the_family(self):
        coins = drawn(7, 3, [[0], [1]], [3, 6])
        for lot in ([2], [0, 1], [0, 1, 2]):
            with self.assertRaises(BadLots) as caught:
                stories(7, 3, [[0], [1]], lot, [3, 6], coins)
            self.assertEqual((caught.exception.first, caught.exception.second), (None, None))
        with self.assertRaises(BadLots):
            stories(7, 3, [], [], [3, 6], drawn(7, 3, [], [3, 6]))
        # There is one story of no votes, so it raises here, too.
        with self.assertRaises(BadLots):
            stories(7, 3, [[0]], [1], [], drawn(7, 3, [[0]], []))

    def test_what_run_raises(self):
        coins = drawn(7, 3, [[0]], [3, 6])
        with self.assertRaises(BadPrime):
            stories(6, 3, [[0]], [0], [3, 5], coins)
        with self.assertRaises(BadLots) as caught:
            stories(7, 3, [[0], [1, 2]], [0], [3, 6], coins)
        self.assertEqual((caught.exception.first, caught.exception.second), (0, 1))
        with self.assertRaises(BadValue) as caught:
            stories(5, 3, [[0]], [0], [3, 6], coins)
        self.assertEqual(caught.exception.value, 6)
        with self.assertRaises(BadCoins):
            stories(7, 3, [[0]], [0], [3, 6, 1], coins)
        coins.stages[0].order = [0, 0]
        with self.assertRaises(BadOrder):
            stories(7, 3, [[0]], [0], [3, 6], coins)


class CopiesTest(unittest.TestCase):
    """Point 3."""

    def test_the_votes_stay(self):
        for votes in VOTES:
            before = list(votes)
            kinds_of(votes).append(9)
            story_count(votes)
            for row in rows_of(votes):
                row.append(9)
            row = next_row(votes)
            if row is not None:
                row.append(9)
            if votes:
                exchanged(votes, 0, len(votes) - 1).append(9)
                exchanged(votes, 0, 0).append(9)
            self.assertEqual(votes, before)

    def test_the_arguments_of_stories_stay(self):
        for prime, mixers, family, votes in RUNS:
            family, votes = [list(lot) for lot in family], list(votes)
            coins = drawn(prime, mixers, family, votes)
            before = ([list(lot) for lot in family], list(votes), parts(coins))
            for lot in inside(mixers, family):
                same = list(lot)
                for story, other in stories(prime, mixers, family, lot, votes, coins):
                    story.append(9)
                    for row in other.votes:
                        row.append(9)
                    for stage in other.stages:
                        stage.order.append(9)
                        for rows in stage.gather + stage.spread:
                            for row in rows:
                                row.append(9)
                            rows.append(9)
                self.assertEqual(lot, same)
                self.assertEqual((family, votes, parts(coins)), before)


if __name__ == "__main__":
    unittest.main()
