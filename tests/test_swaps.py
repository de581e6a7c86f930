"""Points 2, 3, 11, 15, 20, 21 and 40: the other coins for other votes."""

import unittest
from copy import deepcopy
from itertools import permutations, product

from draws import all_lots, drawn, numbers_from, parts
from veilcount.coins import RunCoins, StageCoins, coins_of, flat, size
from veilcount.errors import BadCoins, BadLots, BadOrder, BadPrime, BadValue
from veilcount.lots import holders, is_inside, stage_of
from veilcount.perms import chained, matching, moved
from veilcount.runs import run
from veilcount.swaps import carrier_of, hidden_holder, swapped
from veilcount.views import view

# A prime, a number of mixers, a family and votes.
RUNS = [
    (2, 1, [[]], [1, 0]),
    (3, 1, [[], []], [2, 0, 2]),
    (2, 2, [[0], [0], []], [1, 0, 0]),
    (3, 2, [[], [1]], [0, 1, 2]),
    (5, 2, [[1]], [3]),
    (5, 2, [[], []], []),
    (7, 3, [[0], [1], [2]], [3, 6, 0]),
    (2, 3, [[2], [1], [0]], [1, 1, 0, 0]),
    (5, 3, [[1], [0, 1], [0]], [4, 4, 1]),
    (3, 4, [[1, 2], [0], [1, 3], []], [0, 2, 1]),
    (7, 4, [[1], [0, 2], [0, 3]], [5, 0]),
    (11, 5, [[0, 1], [0, 2], [1, 2], [3, 4]], [10, 1, 4]),
    (101, 5, [[3], [0, 4], [1, 2]], [100, 100, 7]),
]


def other_rows(votes):
    """All different rows of votes with the same count."""
    return [list(others) for others in sorted(set(permutations(votes)))]


def settings():
    """A prime, mixers, a family, a lot, votes, other votes and coins, of all kinds."""
    for seed, (prime, mixers, family, votes) in enumerate(RUNS):
        coins = drawn(prime, mixers, family, votes, seed)
        for lot in all_lots(mixers):
            if is_inside(lot, family):
                for others in other_rows(votes):
                    yield prime, mixers, family, lot, votes, others, coins


class MixersTest(unittest.TestCase):

    def test_the_carrier(self):
        self.assertEqual(carrier_of([], 1), 0)
        self.assertEqual(carrier_of([], 3), 0)
        self.assertEqual(carrier_of([0], 2), 1)
        self.assertEqual(carrier_of([1, 2], 4), 0)
        self.assertEqual(carrier_of([0, 1, 3], 5), 2)
        self.assertEqual(carrier_of([0, 1, 2], 4), 3)

    def test_nobody_is_outside(self):
        self.assertIsNone(carrier_of([0, 1], 2))
        self.assertIsNone(hidden_holder([1, 2], [1, 2], 0))
        self.assertIsNone(hidden_holder([], [1], 0))

    def test_the_hidden_holder_where_the_carrier_holds(self):
        self.assertEqual(hidden_holder([0, 2], [1], 0), 0)
        self.assertEqual(hidden_holder([0, 2, 3], [0, 1], 2), 2)
        # Not the least one outside of the lot, if another one is the carrier.
        self.assertEqual(hidden_holder([0, 1, 2], [1], 2), 2)

    def test_the_hidden_holder_where_the_carrier_does_not_hold(self):
        self.assertEqual(hidden_holder([1, 2], [1], 0), 2)
        self.assertEqual(hidden_holder([0, 1, 3, 4], [0, 1], 2), 3)
        self.assertEqual(hidden_holder([2, 3], [], 0), 2)

    def test_point_11_there_is_a_carrier_and_a_hidden_holder_in_each_stage(self):
        for _, mixers, family, lot, _, _, _ in settings():
            carrier = carrier_of(lot, mixers)
            self.assertEqual(carrier, min(set(range(mixers)) - set(lot)))
            for other in family:
                held = holders(other, mixers)
                hidden = hidden_holder(held, lot, carrier)
                self.assertIn(hidden, held)
                self.assertNotIn(hidden, lot)


class ByHandTest(unittest.TestCase):

    def test_the_first_stage_with_the_carrier_as_a_holder(self):
        # The run is that of test_runs; the differences are 3 and -3.
        coins = RunCoins([[5, 6], [1, 2]],
                         [StageCoins([[[4], [6]]], [1, 0], [[[2, 3], [0, 6]], [[1, 1], [5, 4]]])])
        found = swapped(7, 3, [[0]], [0], [3, 6], [6, 3], coins)
        self.assertIsInstance(found, RunCoins)
        self.assertEqual(parts(found), ([[5, 2], [1, 6]],
                                        [([[[4], [6]]], [0, 1], [[[2, 1], [0, 1]], [[1, 3], [5, 2]]])]))

    def test_the_carrier_has_the_piece_without_a_coin(self):
        # Mixer 2 alone holds; neither its pieces nor those that it gets have a coin.
        coins = RunCoins([[5, 6], [1, 2]], [StageCoins([[[], []], [[], []]], [1, 0], [[[1, 2], [3, 4]]])])
        found = swapped(7, 3, [[0, 1]], [0, 1], [3, 6], [6, 3], coins)
        self.assertEqual(parts(found), ([[5, 6], [1, 2]], [([[[], []], [[], []]], [0, 1], [[[1, 2], [3, 4]]])]))

    def test_the_second_stage_and_a_hidden_holder_with_a_coin(self):
        # All coins are 0; mixer 1 carries, and in the first stage holder 2 has a coin for its piece.
        none = [[0, 0, 0], [0, 0, 0]]
        coins = RunCoins(none, [StageCoins([[[0, 0], [0, 0]]], [1, 0], [none, none, none]),
                                StageCoins([[[0, 0], [0, 0]]], [1, 0], [none, none, none])])
        found = swapped(5, 4, [[1], [0]], [0], [1, 2], [2, 1], coins)
        one, other = [[0, 1, 0], [0, 4, 0]], [[0, 4, 0], [0, 1, 0]]
        self.assertEqual(parts(found), (one, [([[[0, 1], [0, 4]]], [1, 0], [none, other, none]),
                                              ([[[0, 0], [0, 0]]], [0, 1], [other, none, one])]))

    def test_the_second_stage_and_a_hidden_holder_without_a_coin(self):
        # In the first stage the least holder outside of the lot is mixer 3, the last one.
        none = [[0, 0, 0], [0, 0, 0]]
        coins = RunCoins(none, [StageCoins([[[0], [0]], [[0], [0]]], [1, 0], [none, none]),
                                StageCoins([[[0, 0], [0, 0]]], [1, 0], [none, none, none])])
        found = swapped(5, 4, [[1, 2], [0]], [0], [1, 2], [2, 1], coins)
        one, other = [[0, 1, 0], [0, 4, 0]], [[0, 4, 0], [0, 1, 0]]
        self.assertEqual(parts(found), (one, [([[[0], [0]], [[0], [0]]], [1, 0], [none, other]),
                                              ([[[0, 0], [0, 0]]], [0, 1], [other, none, one])]))

    def test_the_order_of_the_stage(self):
        # One mixer, so nothing but the orders is drawn; the votes are different.
        votes, others, first, second = [4, 5, 6, 7], [6, 4, 7, 5], [2, 0, 3, 1], [1, 3, 2, 0]
        coins = RunCoins([[]] * 4, [StageCoins([], first, [[[]] * 4]), StageCoins([], second, [[[]] * 4])])
        found = swapped(11, 1, [[], []], [], votes, others, coins)
        # The votes behind the first order are 6, 4, 7, 5.
        self.assertEqual([others[row] for row in found.stages[0].order], [6, 4, 7, 5])
        self.assertEqual(found.stages[0].order, [0, 1, 2, 3])
        self.assertEqual(found.stages[1].order, second)


class FactsTest(unittest.TestCase):
    """Points 2 and 21."""

    def test_the_lot_sees_the_same(self):
        for prime, mixers, family, lot, votes, others, coins in settings():
            record = run(prime, mixers, family, votes, coins)
            found = run(prime, mixers, family, others, swapped(prime, mixers, family, lot, votes, others, coins))
            self.assertEqual(view(found, lot), view(record, lot))
            self.assertEqual(found.opened, record.opened)

    def test_they_are_coins_of_a_run_and_values(self):
        for prime, mixers, family, lot, votes, others, coins in settings():
            found = swapped(prime, mixers, family, lot, votes, others, coins)
            numbers = flat(found)
            self.assertEqual(len(numbers), size(mixers, family, len(votes)))
            again = coins_of(numbers, prime=prime, mixers=mixers, family=family, rows=len(votes))
            self.assertEqual(parts(again), parts(found))

    def test_made_back_they_are_the_first_coins(self):
        for prime, mixers, family, lot, votes, others, coins in settings():
            found = swapped(prime, mixers, family, lot, votes, others, coins)
            back = swapped(prime, mixers, family, lot, others, votes, found)
            self.assertEqual(parts(back), parts(coins))

    def test_equal_rows_of_votes_have_equal_coins(self):
        for prime, mixers, family, lot, votes, others, coins in settings():
            if others == votes:
                self.assertEqual(parts(swapped(prime, mixers, family, lot, votes, others, coins)), parts(coins))

    def test_orders_stay_but_in_the_first_stage_that_guards(self):
        for prime, mixers, family, lot, votes, others, coins in settings():
            found = swapped(prime, mixers, family, lot, votes, others, coins)
            guard = stage_of(lot, family)
            before = list(range(len(votes)))
            for place, stage in enumerate(coins.stages):
                if place != guard:
                    self.assertEqual(found.stages[place].order, stage.order)
                if place < guard:
                    before = chained(before, stage.order)
            exchange = matching(others, votes)
            due = [before.index(exchange[before[row]]) for row in coins.stages[guard].order]
            self.assertEqual(found.stages[guard].order, due)

    def test_the_stages_behind_keep_their_coins(self):
        # Also the ones whose lot has all members, too.
        for prime, mixers, family, lot, votes, others, coins in settings():
            found = swapped(prime, mixers, family, lot, votes, others, coins)
            behind = stage_of(lot, family) + 1
            self.assertEqual(parts(found)[1][behind:], parts(coins)[1][behind:])

    def test_only_the_pieces_of_the_point_are_changed(self):
        for prime, mixers, family, lot, votes, others, coins in settings():
            found = swapped(prime, mixers, family, lot, votes, others, coins)
            carrier, guard = carrier_of(lot, mixers), stage_of(lot, family)
            self.assert_changed(coins.votes, found.votes, [carrier])
            for place in range(guard + 1):
                held = holders(family[place], mixers)
                hidden = hidden_holder(held, lot, carrier)
                old, new = coins.stages[place], found.stages[place]
                for at, mixer in enumerate(mixer for mixer in range(mixers) if mixer not in held):
                    may = [held.index(hidden)] if mixer == carrier else []
                    self.assert_changed(old.gather[at], new.gather[at], may)
                for at, holder in enumerate(held):
                    may = [carrier] if place == guard or holder == hidden else []
                    self.assert_changed(old.spread[at], new.spread[at], may)

    def assert_changed(self, old, new, places):
        """Only coins at these places differ."""
        self.assertEqual(len(old), len(new))
        for one, other in zip(old, new):
            self.assertEqual(len(one), len(other))
            for place in range(len(one)):
                if place not in places:
                    self.assertEqual(one[place], other[place])

    def test_the_runs_have_all_kinds_of_stages(self):
        # So that the tests above say something of each.
        guards = {(stage_of(lot, family), len(family)) for _, _, family, lot, _, _, _ in settings()}
        self.assertTrue({(0, 1), (0, 3), (1, 3), (2, 3), (2, 4), (3, 4)} <= guards)


class CountTest(unittest.TestCase):
    """Points 2 and 40: over all coins, each view is met as often with either row of votes."""

    def test_two_mixers_and_two_votes(self):
        for prime, family, lot in product((2, 3), ([[0]], [[1]], [[]]), ([], [0], [1])):
            if is_inside(lot, family):
                for one, other in ((0, 1), (prime - 1, 0), (1, 1)):
                    votes, others = [one, other], [other, one]
                    self.assertEqual(self.tally(prime, family, lot, votes), self.tally(prime, family, lot, others))

    def test_a_lot_that_is_in_none_can_tell(self):
        self.assertNotEqual(self.tally(2, [[0]], [1], [0, 1]), self.tally(2, [[0]], [1], [1, 0]))

    def tally(self, prime, family, lot, votes):
        found = {}
        for coins in self.all_coins(prime, family):
            seen = view(run(prime, 2, family, votes, coins), lot)
            found[seen] = found.get(seen, 0) + 1
        return found

    def all_coins(self, prime, family):
        # Ahead of the order stand a coin for each vote; nothing is drawn for the gathering.
        for numbers in product(range(prime), repeat=size(2, family, 2) - 1):
            for number in range(2):
                whole = list(numbers[:2]) + [number] + list(numbers[2:])
                yield coins_of(whole, prime=prime, mixers=2, family=family, rows=2)

    def test_different_coins_have_different_other_coins(self):
        for prime, family, lot in ((2, [[0]], [0]), (3, [[1]], []), (2, [[]], [])):
            found = [tuple(flat(swapped(prime, 2, family, lot, [0, 1], [1, 0], coins)))
                     for coins in self.all_coins(prime, family)]
            self.assertEqual(len(set(found)), len(found))


class OrderTest(unittest.TestCase):
    """The order T is left out, or passed in."""

    def test_the_matching_is_taken_if_it_is_left_out(self):
        for prime, mixers, family, lot, votes, others, coins in settings():
            found = swapped(prime, mixers, family, lot, votes, others, coins)
            again = swapped(prime, mixers, family, lot, votes, others, coins, order=matching(others, votes))
            self.assertEqual(parts(found), parts(again))

    def test_any_order_that_moves_the_other_votes_into_the_votes(self):
        prime, mixers, family, votes, others = 5, 3, [[1], [0, 1]], [4, 4, 1, 4], [4, 1, 4, 4]
        coins = drawn(prime, mixers, family, votes)
        found = {}
        for order in permutations(range(4)):
            order = list(order)
            if moved(others, order) == votes:
                for lot in ([0], [1], [0, 1], []):
                    other_coins = swapped(prime, mixers, family, lot, votes, others, coins, order)
                    record = run(prime, mixers, family, others, other_coins)
                    self.assertEqual(view(record, lot), view(run(prime, mixers, family, votes, coins), lot))
                    found[tuple(lot), tuple(flat(other_coins))] = True
        # Each of the six orders has other coins of its own.
        self.assertEqual(len(found), 6 * 4)

    def test_equal_votes_may_change_their_places(self):
        coins = RunCoins([[], []], [StageCoins([], [0, 1], [[[], []]])])
        self.assertEqual(swapped(7, 1, [[]], [], [3, 3], [3, 3], coins).stages[0].order, [0, 1])
        self.assertEqual(swapped(7, 1, [[]], [], [3, 3], [3, 3], coins, [1, 0]).stages[0].order, [1, 0])

    def test_it_moves_the_other_votes_into_the_votes_and_not_back(self):
        coins = RunCoins([[], [], []], [StageCoins([], [0, 1, 2], [[[], [], []]])])
        self.assertEqual(swapped(7, 1, [[]], [], [4, 5, 6], [6, 4, 5], coins, [1, 2, 0]).stages[0].order, [1, 2, 0])
        self.assertRaises(BadOrder, swapped, 7, 1, [[]], [], [4, 5, 6], [6, 4, 5], coins, [2, 0, 1])

    def test_another_order(self):
        coins = drawn(7, 3, [[0]], [3, 6])
        for order in ([0, 1], [1], [1, 0, 2], [1, 1], []):
            self.assertRaises(BadOrder, swapped, 7, 3, [[0]], [0], [3, 6], [6, 3], coins, order)


class ErrorsTest(unittest.TestCase):

    def test_no_lot_of_the_family_contains_the_lot(self):
        for mixers, family, lot in ((3, [[0], [1]], [2]), (3, [[0], [1]], [0, 1]), (3, [], []), (3, [], [0]),
                                    (2, [[]], [1]), (3, [[0], [1]], [0, 1, 2])):
            with self.assertRaises(BadLots) as caught:
                swapped(7, mixers, family, lot, [3, 6], [6, 3], drawn(7, mixers, family, [3, 6]))
            self.assertEqual((caught.exception.first, caught.exception.second), (None, None))

    def test_others_that_are_not_the_votes_in_another_order(self):
        coins = drawn(7, 3, [[0]], [3, 6])
        for others in ([3, 5], [3, 3], [6, 6], [3], [3, 6, 3], [3, 6, 6], [], [10, 6], [3, -1]):
            self.assertRaises(BadOrder, swapped, 7, 3, [[0]], [0], [3, 6], others, coins)
            self.assertRaises(BadOrder, swapped, 7, 3, [[0]], [0], [3, 6], others, coins, [1, 0])
            self.assertRaises(BadOrder, swapped, 7, 3, [[0]], [0], [3, 6], others, coins, list(range(len(others))))

    def test_what_run_raises(self):
        coins = drawn(7, 3, [[0]], [3, 6])
        with self.assertRaises(BadPrime) as caught:
            swapped(8, 3, [[0]], [0], [3, 6], [6, 3], coins)
        self.assertEqual(caught.exception.number, 8)
        for family, first, second in (([[0], [3]], 1, None), ([[0], [0, 1], [2]], 1, 2), ([[0, 1, 2]], 0, 0)):
            with self.assertRaises(BadLots) as caught:
                swapped(7, 3, family, [0], [3, 6], [6, 3], coins)
            self.assertEqual((caught.exception.first, caught.exception.second), (first, second))
        with self.assertRaises(BadValue) as caught:
            swapped(7, 3, [[0]], [0], [3, 7], [7, 3], coins)
        self.assertEqual(caught.exception.value, 7)
        coins.votes[1].append(0)
        with self.assertRaises(BadCoins) as caught:
            swapped(7, 3, [[0]], [0], [3, 6], [6, 3], coins)
        self.assertEqual((caught.exception.due, caught.exception.given), (15, 16))
        self.assertRaises(BadCoins, swapped, 7, 3, [[0], [0]], [0], [3, 6], [6, 3], drawn(7, 3, [[0]], [3, 6]))

    def test_the_order_of_the_errors(self):
        # As the interface lists them: the lot, the other votes, then what run raises.
        none = RunCoins([], [])
        self.assertRaises(BadLots, swapped, 8, 3, [[0]], [1], [3, 9], [3, 6], none)
        self.assertRaises(BadOrder, swapped, 8, 3, [[0]], [0], [3, 9], [3, 6], none)
        self.assertRaises(BadPrime, swapped, 8, 3, [[0]], [0], [3, 9], [9, 3], none)
        self.assertRaises(BadValue, swapped, 7, 3, [[0]], [0], [3, 9], [9, 3], none)


class CopiesTest(unittest.TestCase):
    """Point 3."""

    def test_what_is_passed_in_stays(self):
        for prime, mixers, family, lot, votes, others, coins in settings():
            order = matching(others, votes)
            given = deepcopy((family, lot, votes, others, order))
            before = parts(coins)
            found = swapped(prime, mixers, family, lot, votes, others, coins, order)
            for one in [found.votes, found.stages] + found.votes:
                one.append(9)
            for stage in found.stages[:-1]:
                for one in [stage.gather, stage.order, stage.spread] + stage.gather + stage.spread:
                    one.append(9)
                    if one and isinstance(one[0], list):
                        one[0].append(9)
            self.assertEqual((family, lot, votes, others, order), given)
            self.assertEqual(parts(coins), before)

    def test_coins_of_any_size_are_taken_modulo_the_prime(self):
        prime, mixers, family, votes, others = 7, 3, [[0], [1], [2]], [3, 6, 0], [0, 3, 6]
        coins = drawn(prime, mixers, family, votes)
        great = deepcopy(coins)
        shifts = iter(numbers_from(5, 100))
        for stage in great.stages:
            for row in [row for rows in stage.gather + stage.spread for row in rows]:
                row[:] = [coin + 7 * next(shifts) for coin in row]
        great.votes = [[coin - 7 * 10 ** 30 for coin in row] for row in great.votes]
        for lot in ([0], [1], [2], []):
            due = swapped(prime, mixers, family, lot, votes, others, coins)
            self.assertEqual(parts(swapped(prime, mixers, family, lot, votes, others, great)), parts(due))
            back = swapped(prime, mixers, family, lot, others, votes, due)
            self.assertEqual(parts(back), parts(coins))


if __name__ == "__main__":
    unittest.main()
