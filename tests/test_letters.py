"""Points 3, 13 to 17, 45, 46 and 47: letters."""

import unittest
from itertools import permutations, product
from unittest.mock import patch

from draws import drawn, numbers_from, parts
from veilcount.coins import RunCoins, StageCoins
from veilcount.letters import Net, Setting, run_letters
from veilcount.runs import last_table, run
from veilcount.shares import split, values_of

# A prime, a number of mixers, a family and votes.
RUNS = [
    (2, 1, [], [1]),
    (2, 1, [[]], [1, 0, 1]),
    (3, 2, [[0], []], [2, 1]),
    (5, 2, [[1], [1]], [4]),
    (7, 3, [[0], [1], [2]], [3, 6, 0]),
    (7, 4, [[0, 1], [], [1, 3]], [3, 6]),
    (101, 5, [[0, 1], [2, 3], [1, 4]], [100, 50, 50, 0]),
    (7, 3, [], [3, 6]),
    (7, 3, [[0, 2], [0]], [5, 5]),
    # The mixer 0 is a holder in no stage.
    (7, 4, [[0, 1], [0, 2], [0]], [3, 6, 1]),
]


def small_coins():
    """The holders are 1 and 2."""
    return RunCoins([[5, 6], [1, 2]], [StageCoins([[[4], [6]]], [1, 0], [[[2, 3], [0, 6]], [[1, 1], [5, 4]]])])


def small_net():
    return Net(Setting(7, 3, [[0]], 2), [3, 6], small_coins())


def behind(net, picks):
    """The letters that are delivered by these picks."""
    return [net.deliver(pick % len(net.bag)) for pick in picks]


def all_letters(prime, mixers, family, votes, coins):
    """All letters of a run, from its record."""
    record = run(prime, mixers, family, votes, coins)
    found = [("vote", -1, row, mixer, [share]) for row, shares in enumerate(record.table)
             for mixer, share in enumerate(shares)]
    for place, stage in enumerate(record.stages):
        others = [mixer for mixer in range(mixers) if mixer not in stage.holders]
        for (at, mixer), (seat, holder) in product(enumerate(others), enumerate(stage.holders)):
            found.append(("gather", place, mixer, holder, [row[seat] for row in stage.gathered[at]]))
        for (seat, holder), mixer in product(enumerate(stage.holders), range(mixers)):
            found.append(("spread", place, holder, mixer, [row[mixer] for row in stage.spread[seat]]))
    last = last_table(record)
    return found + [("show", len(family), mixer, -1, [row[mixer] for row in last]) for mixer in range(mixers)]


class FirstLettersTest(unittest.TestCase):
    """Point 45."""

    def test_fields(self):
        setting = Setting(7, 3, [[0], []], 2)
        self.assertEqual((setting.prime, setting.mixers, setting.family, setting.rows), (7, 3, [[0], []], 2))
        net = Net(setting, [3, 6], drawn(7, 3, [[0], []], [3, 6]))
        self.assertIs(net.setting, setting)
        self.assertIsInstance(net.bag, list)
        self.assertEqual(net.board, {})
        self.assertIsNone(net.table())

    def test_the_letters_of_the_voters(self):
        # By rows and in a row by mixers; the pieces of 3 are 5, 6 and 6.
        self.assertEqual(small_net().bag, [("vote", -1, 0, 0, [5]), ("vote", -1, 0, 1, [6]), ("vote", -1, 0, 2, [6]),
                                           ("vote", -1, 1, 0, [1]), ("vote", -1, 1, 1, [2]), ("vote", -1, 1, 2, [3])])

    def test_the_pieces_of_all_votes(self):
        for prime, mixers, family, votes in RUNS:
            coins = drawn(prime, mixers, family, votes)
            net = Net(Setting(prime, mixers, family, len(votes)), votes, coins)
            pieces = [split(prime, vote, coins.votes[row]) for row, vote in enumerate(votes)]
            self.assertEqual(net.bag, [("vote", -1, row, mixer, [pieces[row][mixer]])
                                       for row in range(len(votes)) for mixer in range(mixers)])

    def test_a_mixer_with_some_pieces_waits(self):
        net = small_net()
        self.assertEqual(net.deliver(0), ("vote", -1, 0, 0, [5]))
        self.assertEqual([letter[0] for letter in net.bag], ["vote"] * 5)
        # Its other piece is now the third one on the way.
        self.assertEqual(net.deliver(2), ("vote", -1, 1, 0, [1]))
        self.assertEqual([letter[0] for letter in net.bag], ["vote"] * 4 + ["gather"] * 2)

    def test_the_stage_begins_with_the_pieces_of_all_rows_in_any_order(self):
        for order in permutations((0, 3)):
            net = small_net()
            letters = [net.bag[place] for place in order]
            for letter in letters:
                self.assertEqual(net.deliver(net.bag.index(letter)), letter)
            self.assertEqual(net.bag[4:], [("gather", 0, 0, 1, [4, 6]), ("gather", 0, 0, 2, [1, 2])])


class StagesTest(unittest.TestCase):
    """Point 46, by hand: the shares of the mixers are 5 and 1, 6 and 2, 6 and 3."""

    def test_gathering(self):
        net = small_net()
        behind(net, [0, 2])
        # The share 5 has the pieces 4 and 1, the share 1 has 6 and 2; each holder gets its own ones row by row.
        self.assertEqual(net.bag[-2:], [("gather", 0, 0, 1, [4, 6]), ("gather", 0, 0, 2, [1, 2])])

    def test_a_holder_sends_nothing_when_it_begins(self):
        net = small_net()
        self.assertEqual(behind(net, [1, 3]), [("vote", -1, 0, 1, [6]), ("vote", -1, 1, 1, [2])])
        self.assertEqual([letter[0] for letter in net.bag], ["vote"] * 4)

    def test_ordering_and_spreading(self):
        net = small_net()
        behind(net, [0] * 6)
        self.assertEqual(net.bag, [("gather", 0, 0, 1, [4, 6]), ("gather", 0, 0, 2, [1, 2])])
        self.assertEqual(net.deliver(0), ("gather", 0, 0, 1, [4, 6]))
        # It holds 3 and 1, and moves them: 1 has the pieces 2, 3 and 3, and 3 has 0, 6 and 4.
        self.assertEqual(net.bag[1:], [("spread", 0, 1, 0, [2, 0]), ("spread", 0, 1, 1, [3, 6]),
                                       ("spread", 0, 1, 2, [3, 4])])
        net.deliver(0)
        # The mixer 2 holds 0 and 5; 5 has the pieces 1, 1 and 3, and 0 has 5, 4 and 5.
        self.assertEqual(net.bag[3:], [("spread", 0, 2, 0, [1, 5]), ("spread", 0, 2, 1, [1, 4]),
                                       ("spread", 0, 2, 2, [3, 5])])

    def test_showing(self):
        net = small_net()
        behind(net, [0] * 8)
        self.assertEqual(len(net.bag), 6)
        behind(net, [0, 2])
        self.assertEqual([letter[0] for letter in net.bag], ["spread"] * 4 + ["show"])
        self.assertEqual(net.bag[-1], ("show", 1, 0, -1, [3, 5]))
        self.assertEqual(net.board, {})
        self.assertEqual(net.deliver(4), ("show", 1, 0, -1, [3, 5]))
        self.assertEqual(net.board, {0: [3, 5]})
        self.assertIsNone(net.table())
        behind(net, [0] * 4)
        self.assertEqual(net.bag, [("show", 1, 1, -1, [4, 3]), ("show", 1, 2, -1, [6, 2])])
        net.deliver(1)
        self.assertEqual(net.board, {0: [3, 5], 2: [6, 2]})
        self.assertIsNone(net.table())
        net.deliver(0)
        self.assertEqual(net.bag, [])
        self.assertEqual(net.board, {0: [3, 5], 1: [4, 3], 2: [6, 2]})
        self.assertEqual(net.table(), [[3, 4, 6], [5, 3, 2]])
        self.assertEqual(values_of(7, net.table()), [6, 3])

    def test_an_early_letter_of_the_gathering_waits(self):
        net = small_net()
        # The mixer 0 begins; its letter for the mixer 1 arrives before the votes do.
        behind(net, [0, 2])
        self.assertEqual(net.deliver(4), ("gather", 0, 0, 1, [4, 6]))
        self.assertEqual(len(net.bag), 5)
        behind(net, [0])
        self.assertEqual([letter[0] for letter in net.bag], ["vote"] * 3 + ["gather"])
        # With its second piece the mixer 1 begins, and can order at once.
        self.assertEqual(net.deliver(1), ("vote", -1, 1, 1, [2]))
        self.assertEqual(net.bag[3:], [("spread", 0, 1, 0, [2, 0]), ("spread", 0, 1, 1, [3, 6]),
                                       ("spread", 0, 1, 2, [3, 4])])

    def test_an_early_letter_of_the_spreading_waits(self):
        # All are holders; the mixer 1 gets the letter of the mixer 0 ahead of its own vote.
        net = Net(Setting(7, 2, [[]], 1), [3], RunCoins([[5]], [StageCoins([], [0], [[[1]], [[2]]])]))
        self.assertEqual(net.bag, [("vote", -1, 0, 0, [5]), ("vote", -1, 0, 1, [5])])
        net.deliver(0)
        self.assertEqual(net.bag[1:], [("spread", 0, 0, 0, [1]), ("spread", 0, 0, 1, [4])])
        self.assertEqual(net.deliver(2), ("spread", 0, 0, 1, [4]))
        self.assertEqual(net.deliver(1), ("spread", 0, 0, 0, [1]))
        self.assertEqual(net.bag, [("vote", -1, 0, 1, [5])])
        net.deliver(0)
        self.assertEqual(net.bag, [("spread", 0, 1, 0, [2]), ("spread", 0, 1, 1, [3])])
        # Only behind its own ordering, and with its own letter, the mixer 1 adds up.
        net.deliver(1)
        self.assertEqual(net.bag, [("spread", 0, 1, 0, [2]), ("show", 1, 1, -1, [0])])
        net.deliver(0)
        self.assertEqual(net.bag, [("show", 1, 1, -1, [0]), ("show", 1, 0, -1, [3])])
        behind(net, [0, 0])
        self.assertEqual(net.table(), [[3, 0]])

    def test_a_letter_of_a_later_stage_waits(self):
        # In the stage 1 the mixer 0 is no holder; its letter arrives while the mixer 1 is still in the stage 0.
        coins = drawn(7, 2, [[], [0]], [3])
        wanted = last_table(run(7, 2, [[], [0]], [3], coins))
        net = Net(Setting(7, 2, [[], [0]], 1), [3], coins)
        behind(net, [0, 0])
        for_the_first = [letter for letter in net.bag if letter[3] == 0]
        self.assertEqual([letter[0] for letter in for_the_first], ["spread", "spread"])
        for letter in for_the_first:
            net.deliver(net.bag.index(letter))
        early = net.bag[-1]
        self.assertEqual(early[:4], ("gather", 1, 0, 1))
        left = len(net.bag)
        self.assertEqual(net.deliver(left - 1), early)
        self.assertEqual(len(net.bag), left - 1)
        while net.bag:
            net.deliver(0)
        self.assertEqual(net.table(), wanted)

    def test_a_family_without_lots(self):
        net = Net(Setting(7, 2, [], 2), [3, 6], drawn(7, 2, [], [3, 6]))
        first = [letter[4][0] for letter in net.bag if letter[3] == 0]
        behind(net, [0, 1])
        self.assertEqual(net.bag[-1], ("show", 0, 0, -1, first))

    def test_all_letters_of_a_run(self):
        for prime, mixers, family, votes in RUNS:
            coins = drawn(prime, mixers, family, votes)
            letters = all_letters(prime, mixers, family, votes, coins)
            for seed in range(4):
                net = Net(Setting(prime, mixers, family, len(votes)), votes, coins)
                delivered = []
                for pick in numbers_from(seed, len(letters)):
                    delivered.append(net.deliver(pick % len(net.bag)))
                self.assertEqual(net.bag, [])
                self.assertTrue(all(isinstance(letter, tuple) for letter in delivered))
                self.assertEqual(sorted(delivered), sorted(letters))

    def test_the_letter_at_the_place_is_delivered(self):
        for prime, mixers, family, votes in RUNS:
            net = Net(Setting(prime, mixers, family, len(votes)), votes, drawn(prime, mixers, family, votes))
            seed = 0
            while net.bag:
                place = numbers_from(seed, 1)[0] % len(net.bag)
                before = list(net.bag)
                letter = net.deliver(place)
                self.assertEqual(letter, before[place])
                # What is sent then stands behind all that was on its way.
                left = before[:place] + before[place + 1:]
                self.assertEqual(net.bag[:len(left)], left)
                seed += 1


class RunTest(unittest.TestCase):
    """Point 47: in whatever order the letters arrive, the board has the last table of the run."""

    def assert_run(self, prime, mixers, family, votes, coins, picks):
        setting = Setting(prime, mixers, family, len(votes))
        self.assertEqual(run_letters(setting, votes, coins, picks),
                         last_table(run(prime, mixers, family, votes, coins)))

    def test_first_come(self):
        for case in RUNS:
            self.assert_run(*case, drawn(*case), [])

    def test_last_come(self):
        for case in RUNS:
            self.assert_run(*case, drawn(*case), [-1] * 500)

    def test_other_picks(self):
        for case in RUNS:
            for seed in range(20):
                self.assert_run(*case, drawn(*case, seed), numbers_from(seed, 7 * seed, spread=10 ** 9))

    def test_more_picks_than_letters(self):
        for case in RUNS:
            self.assert_run(*case, drawn(*case), numbers_from(5, 1000))

    def test_picks_below_nought_and_far_beyond(self):
        for case in RUNS:
            for pick in (-1, -10 ** 30, 10 ** 30 + 1, 3):
                self.assert_run(*case, drawn(*case), [pick] * 40)

    def test_the_letters_at_the_places_of_the_picks(self):
        for case in RUNS:
            prime, mixers, family, votes = case
            setting, coins = Setting(prime, mixers, family, len(votes)), drawn(*case)
            for picks in ([], [7], [-1, 100, 5, 3, -10 ** 30], numbers_from(3, 500)):
                net = Net(setting, votes, coins)
                wanted = []
                for pick in picks + [0] * 500:
                    if net.bag:
                        wanted.append(net.deliver(pick % len(net.bag)))
                delivered = []

                def deliver(net, place, plain=Net.deliver):
                    delivered.append(plain(net, place))
                    return delivered[-1]

                with patch.object(Net, "deliver", deliver):
                    run_letters(setting, votes, coins, picks)
                self.assertEqual(delivered, wanted)

    def test_all_orders_of_the_letters_of_a_small_run(self):
        # Two mixers, one vote, one stage: all ways in which the letters can arrive.
        coins = drawn(7, 2, [[0]], [3])
        wanted = last_table(run(7, 2, [[0]], [3], coins))
        ways = 0
        waiting = [[]]
        while waiting:
            picks = waiting.pop()
            net = Net(Setting(7, 2, [[0]], 1), [3], coins)
            behind(net, picks)
            if not net.bag:
                ways += 1
                self.assertEqual(net.table(), wanted)
                self.assertEqual(run_letters(Setting(7, 2, [[0]], 1), [3], coins, picks), wanted)
            else:
                self.assertIsNone(net.table())
                waiting += [picks + [place] for place in range(len(net.bag))]
        self.assertGreater(ways, 10)

    def test_opened_values(self):
        for prime, mixers, family, votes in RUNS:
            coins = drawn(prime, mixers, family, votes)
            table = run_letters(Setting(prime, mixers, family, len(votes)), votes, coins, [5, 1, 4])
            self.assertEqual(sorted(values_of(prime, table)), sorted(votes))

    def test_numbers_of_any_size_and_below_nought(self):
        coins = RunCoins([[-9, 20], [1, 2]],
                         [StageCoins([[[-3], [13]]], [1, 0], [[[9, 10 ** 30], [-7, -1]], [[8, 8], [5, 4]]])])
        self.assert_run(7, 3, [[0]], [3, 6], coins, [3, 1, 4, 1, 5])

    def test_no_rows(self):
        # Somewhat beyond the limit: the mixers have nothing to wait for.
        for family in ([], [[]], [[0], [1]]):
            coins = drawn(7, 3, family, [])
            for picks in ([], [-1] * 30):
                self.assertEqual(run_letters(Setting(7, 3, family, 0), [], coins, picks), [])


class CopiesTest(unittest.TestCase):
    """Point 3."""

    def test_what_is_passed_in_stays(self):
        for prime, mixers, family, votes in RUNS:
            family, votes, picks = [list(lot) for lot in family], list(votes), [5, -1, 4]
            coins = drawn(prime, mixers, family, votes)
            before = ([list(lot) for lot in family], list(votes), parts(coins), list(picks))
            setting = Setting(prime, mixers, family, len(votes))
            setting.family.append([9])
            setting.family.pop()
            for row in run_letters(setting, votes, coins, picks):
                row.append(9)
            self.assertEqual((family, votes, parts(coins), picks), before)

    def test_the_lots_of_a_setting_are_copied(self):
        family = [[0], [1]]
        setting = Setting(7, 3, family, 2)
        family[0].append(2)
        family.append([])
        self.assertEqual(setting.family, [[0], [1]])

    def test_a_net_has_its_own_coins(self):
        case = (7, 3, [[0], [1]], [3, 6])
        coins, votes = drawn(*case), [3, 6]
        net = Net(Setting(7, 3, [[0], [1]], 2), votes, coins)
        votes[0] = 5
        for stage in coins.stages:
            stage.order.reverse()
            stage.spread[0][0][0] += 1
        while net.bag:
            # Not even a letter that was delivered is looked at again.
            net.deliver(0)[4].append(9)
        self.assertEqual(net.table(), last_table(run(*case, drawn(*case))))

    def test_tables_are_new(self):
        net = small_net()
        while net.bag:
            net.deliver(0)
        net.table()[0].append(9)
        net.table().append(9)
        self.assertEqual(net.table(), [[3, 4, 6], [5, 3, 2]])
        self.assertEqual(net.board, {0: [3, 5], 1: [4, 3], 2: [6, 2]})


if __name__ == "__main__":
    unittest.main()
