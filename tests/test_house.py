"""Points 3, 48, 49, 50 and 52: elections; points 17, 25, 29 and 51 with them."""

import unittest
from copy import deepcopy
from itertools import permutations, product

from draws import numbers_from, record_fields
from veilcount.ballots import ballot_number
from veilcount.coins import coins_of, flat, size
from veilcount.errors import BadCoins, BadLots, LineError, PhaseError, VoteError
from veilcount.house import Election, replayed
from veilcount.log import read_log, write_log
from veilcount.runs import RunRecord, run
from veilcount.tallies import beats_all, counts, first_counts, leaders, pairs, points, runoff
from veilcount.views import view

FAMILY = [[0], [1]]


def new(options=3, voters=5):
    return Election(options=options, mixers=3, family=FAMILY, voters=voters)


def state(election):
    """All fields of an election, as values of their own."""
    record = None if election.record is None else record_fields(election.record)
    return deepcopy((election.options, election.mixers, election.family, election.voters, election.prime,
                     election.phase, election.rankings, election.deeds, record))


def rankings_of(options, many, seed=0):
    every = [list(ranking) for ranking in permutations(range(options))]
    return [every[number % len(every)] for number in numbers_from(seed, many)]


def voting_one():
    """Voters 3, 0 and 2 have a ranking; voter 1 has withdrawn."""
    election = new()
    election.cast(3, [2, 0, 1])
    election.cast(0, [0, 1, 2])
    election.cast(1, [1, 2, 0])
    election.withdraw(1)
    election.cast(2, [2, 0, 1])
    return election


def mixing_one():
    election = voting_one()
    election.close()
    return election


def open_one(seed=0):
    election = mixing_one()
    election.mix(numbers_from(seed, election.needed()))
    return election


def opened_election(options, rankings, seed=0):
    """An open election in which these rankings were cast."""
    election = new(options, len(rankings))
    for voter, ranking in enumerate(rankings):
        election.cast(voter, ranking)
    election.close()
    election.mix(numbers_from(seed, election.needed()))
    return election


PHASES = {"voting": voting_one, "mixing": mixing_one, "open": open_one}

# Each deed, and what does it.
DEEDS = {
    "cast": lambda election: election.cast(4, [0, 1, 2]),
    "withdraw": lambda election: election.withdraw(0),
    "close": lambda election: election.close(),
    "mix": lambda election: election.mix(numbers_from(0, election.needed())),
}

# The deeds of each phase.
ALLOWED = {"voting": ("cast", "withdraw", "close"), "mixing": ("mix",), "open": ()}

# What an open election answers.
ANSWERS = {
    "opened": lambda election: election.opened(),
    "first_places": lambda election: election.first_places(),
    "runoff": lambda election: election.runoff(),
    "points": lambda election: election.points(),
    "beats_all": lambda election: election.beats_all(),
    "seen_by": lambda election: election.seen_by([0]),
}


class NewTest(unittest.TestCase):
    """Point 48."""

    def test_fields_at_first(self):
        self.assertEqual(state(Election(options=3, mixers=4, family=[[0], [2]], voters=40)),
                         (3, 4, [[0], [2]], 40, 7, "voting", {}, [], None))

    def test_the_prime(self):
        # The least one that is not less than 1, 2, 6, 24, 120 and 720.
        self.assertEqual([new(options).prime for options in range(1, 7)], [2, 2, 7, 29, 127, 727])

    def test_a_family_that_is_none(self):
        for family, first, second in (([[0], [1, 0]], 1, None), ([[0], [3]], 1, None), ([[0], [1, 2]], 0, 1),
                                      ([[], [0, 1, 2]], 0, 1), ([[0, 1, 2]], 0, 0)):
            with self.assertRaises(BadLots) as caught:
                Election(options=3, mixers=3, family=family, voters=2)
            self.assertEqual((caught.exception.first, caught.exception.second), (first, second))

    def test_votes_are_the_numbers_of_rankings_by_ascending_voters(self):
        election = new()
        self.assertEqual(election.votes(), [])
        election.cast(3, [2, 0, 1])
        self.assertEqual(election.votes(), [4])
        election.cast(0, [0, 1, 2])
        election.cast(2, [2, 1, 0])
        self.assertEqual(election.votes(), [0, 5, 4])
        election.withdraw(2)
        self.assertEqual(election.votes(), [0, 4])

    def test_each_ranking_has_its_number(self):
        for options in range(1, 6):
            election = new(options, 200)
            for voter, ranking in enumerate(permutations(range(options))):
                election.cast(voter, list(ranking))
            self.assertEqual(election.votes(), list(range(len(election.rankings))))

    def test_how_many_numbers_mixing_takes(self):
        election = new()
        self.assertEqual(election.needed(), size(3, FAMILY, 0))
        self.assertEqual(election.needed(), 2)
        for many, voter in enumerate((4, 0, 2), start=1):
            election.cast(voter, [0, 1, 2])
            self.assertEqual(election.needed(), size(3, FAMILY, many))
        election.withdraw(0)
        self.assertEqual(election.needed(), size(3, FAMILY, 2))

    def test_votes_and_needed_in_each_phase(self):
        for phase, made in PHASES.items():
            election = made()
            self.assertEqual(election.phase, phase)
            self.assertEqual(election.votes(), [0, 4, 4])
            self.assertEqual(election.needed(), size(3, FAMILY, 3))


class VotingTest(unittest.TestCase):
    """Point 49: casting, withdrawing and closing."""

    def assert_no_vote(self, voter, deed, election):
        before = state(election)
        with self.assertRaises(VoteError) as caught:
            deed()
        self.assertEqual(caught.exception.voter, voter)
        self.assertEqual(state(election), before)

    def test_casting(self):
        election = new()
        self.assertIsNone(election.cast(4, [2, 0, 1]))
        self.assertEqual(election.rankings, {4: [2, 0, 1]})
        self.assertIsNone(election.cast(0, [0, 1, 2]))
        self.assertEqual(election.rankings, {4: [2, 0, 1], 0: [0, 1, 2]})
        self.assertEqual(election.phase, "voting")

    def test_a_voter_that_is_none(self):
        election = voting_one()
        for voter in (-1, -5, 5, 6, 10 ** 30):
            self.assert_no_vote(voter, lambda: election.cast(voter, [0, 1, 2]), election)
        none = new(voters=0)
        self.assert_no_vote(0, lambda: none.cast(0, [0, 1, 2]), none)

    def test_a_voter_who_has_a_ranking(self):
        election = voting_one()
        for voter in (0, 2, 3):
            self.assert_no_vote(voter, lambda: election.cast(voter, [0, 1, 2]), election)

    def test_a_list_that_is_no_order_of_all_options(self):
        election = voting_one()
        for ranking in ([], [0, 1], [0, 1, 2, 3], [0, 1, 1], [0, 0, 1, 2], [1, 2, 3], [0, 1, -1], [0, 1, 10 ** 30],
                        [0], [0, 1, 2, 0]):
            self.assert_no_vote(4, lambda: election.cast(4, ranking), election)

    def test_the_only_option(self):
        election = new(options=1)
        election.cast(0, [0])
        self.assert_no_vote(1, lambda: election.cast(1, []), election)
        self.assert_no_vote(1, lambda: election.cast(1, [1]), election)
        self.assertEqual(election.votes(), [0])

    def test_withdrawing(self):
        election = voting_one()
        self.assertIsNone(election.withdraw(0))
        self.assertEqual(election.rankings, {3: [2, 0, 1], 2: [2, 0, 1]})
        self.assertIsNone(election.withdraw(3))
        self.assertIsNone(election.withdraw(2))
        self.assertEqual(election.rankings, {})

    def test_withdrawing_without_a_ranking(self):
        election = voting_one()
        # One who never had one, one who has withdrawn, and some who are no voters.
        for voter in (4, 1, -1, 5, 10 ** 30):
            self.assert_no_vote(voter, lambda: election.withdraw(voter), election)

    def test_casting_again_behind_a_withdrawal(self):
        election = voting_one()
        election.withdraw(3)
        election.cast(3, [1, 0, 2])
        self.assertEqual(election.rankings, {0: [0, 1, 2], 2: [2, 0, 1], 3: [1, 0, 2]})
        self.assert_no_vote(3, lambda: election.cast(3, [1, 0, 2]), election)

    def test_closing(self):
        election = voting_one()
        before = election.votes()
        self.assertIsNone(election.close())
        self.assertEqual(election.phase, "mixing")
        self.assertEqual(election.votes(), before)
        self.assertIsNone(election.record)


class PhasesTest(unittest.TestCase):
    """Point 49: every deed in another phase raises PhaseError."""

    def assert_phase(self, phase, deed, election):
        before = state(election)
        with self.assertRaises(PhaseError) as caught:
            deed(election)
        self.assertEqual(caught.exception.phase, phase)
        self.assertEqual(state(election), before)

    def test_each_deed_in_each_phase(self):
        for (phase, made), (word, deed) in product(PHASES.items(), DEEDS.items()):
            election = made()
            if word in ALLOWED[phase]:
                self.assertIsNone(deed(election))
                self.assertEqual(election.deeds[-1][0], word)
            else:
                self.assert_phase(phase, deed, election)

    def test_the_phase_comes_ahead_of_any_other_fault(self):
        for phase, made in PHASES.items():
            if phase != "voting":
                self.assert_phase(phase, lambda election: election.cast(-1, [0, 0]), made())
                self.assert_phase(phase, lambda election: election.cast(0, []), made())
                self.assert_phase(phase, lambda election: election.withdraw(4), made())
            if phase != "mixing":
                self.assert_phase(phase, lambda election: election.mix([]), made())

    def test_deeds_of_the_log_as_well(self):
        for phase, made in PHASES.items():
            for word, deed in (("cast", ("cast", [9, 1])), ("withdraw", ("withdraw", [9])), ("close", ("close", [])),
                               ("mix", ("mix", [1]))):
                if word not in ALLOWED[phase]:
                    self.assert_phase(phase, lambda election: election.let(deed), made())

    def test_answers(self):
        for phase, answer in product(("voting", "mixing"), ANSWERS.values()):
            self.assert_phase(phase, answer, PHASES[phase]())
        for answer in ANSWERS.values():
            answer(open_one())

    def test_answers_without_votes(self):
        election = new()
        for answer in ANSWERS.values():
            self.assert_phase("voting", answer, election)

    def test_undo_of_an_open_election(self):
        self.assert_phase("open", lambda election: election.undo(), open_one())


class MixingTest(unittest.TestCase):
    """Point 49: mixing by numbers for the coins."""

    def test_the_record_is_that_of_a_run(self):
        for seed in range(5):
            election = mixing_one()
            numbers = numbers_from(seed, election.needed())
            votes = election.votes()
            self.assertIsNone(election.mix(numbers))
            coins = coins_of(numbers, prime=7, mixers=3, family=FAMILY, rows=3)
            self.assertIsInstance(election.record, RunRecord)
            self.assertEqual(record_fields(election.record), record_fields(run(7, 3, FAMILY, votes, coins)))
            self.assertEqual(election.phase, "open")
            self.assertEqual(election.votes(), votes)

    def test_too_few_numbers_and_too_many(self):
        for more in (-1, 1, 10, -40):
            election = mixing_one()
            before = state(election)
            due = election.needed()
            with self.assertRaises(BadCoins) as caught:
                election.mix([1] * (due + more))
            self.assertEqual((caught.exception.due, caught.exception.given), (due, max(0, due + more)))
            self.assertEqual(state(election), before)
            # It may be mixed all the same.
            election.mix([1] * due)
            self.assertEqual(election.phase, "open")

    def test_numbers_below_nought_and_of_any_size(self):
        election = mixing_one()
        election.mix([(-1) ** place * 10 ** (3 * place) for place in range(election.needed())])
        self.assertEqual(sorted(election.opened()), [[0, 1, 2], [2, 0, 1], [2, 0, 1]])

    def test_nobody_who_votes(self):
        for voters in (0, 3):
            election = new(voters=voters)
            election.close()
            self.assertEqual((election.votes(), election.needed()), ([], 2))
            election.mix([5, -5])
            self.assertEqual(election.opened(), [])
            self.assertEqual(election.first_places(), [0, 0, 0])
            self.assertEqual(election.runoff(), runoff([], 3))
            self.assertEqual(election.points(), [0, 0, 0])
            self.assertIsNone(election.beats_all())
            self.assertEqual(election.log(), "close\nmix 0 0")

    def test_a_family_without_lots(self):
        election = Election(options=2, mixers=2, family=[], voters=2)
        election.cast(0, [1, 0])
        election.close()
        election.mix([5])
        self.assertEqual(election.opened(), [[1, 0]])

    def test_many_voters(self):
        rankings = rankings_of(6, 40)
        election = opened_election(6, rankings)
        self.assertEqual(sorted(election.opened()), sorted(rankings))


class LogTest(unittest.TestCase):
    """Point 50."""

    def test_the_log_behind_each_deed(self):
        election = new()
        self.assertEqual((election.deeds, election.log()), ([], ""))
        election.cast(3, [2, 0, 1])
        self.assertEqual(election.deeds, [("cast", [3, 2, 0, 1])])
        self.assertEqual(election.log(), "cast 3 2 0 1")
        election.withdraw(3)
        self.assertEqual(election.deeds[1:], [("withdraw", [3])])
        self.assertEqual(election.log(), "cast 3 2 0 1\nwithdraw 3")
        election.cast(0, [0, 1, 2])
        election.close()
        self.assertEqual(election.deeds[3:], [("close", [])])
        self.assertEqual(election.log(), "cast 3 2 0 1\nwithdraw 3\ncast 0 0 1 2\nclose")
        election.mix([-1, 8, 1, 2, 3, 4, 5, 6, 7, 8, 9, 10, 11, 12])
        self.assertEqual(election.log(), "cast 3 2 0 1\nwithdraw 3\ncast 0 0 1 2\nclose\n"
                                         "mix 6 1 1 0 3 4 5 6 0 0 2 3 4 5")

    def test_the_numbers_of_the_coins_as_flat_gives_them(self):
        for seed in range(5):
            election = mixing_one()
            numbers = numbers_from(seed, election.needed())
            election.mix(numbers)
            drawn = flat(coins_of(numbers, prime=7, mixers=3, family=FAMILY, rows=3))
            self.assertEqual(election.deeds[-1], ("mix", drawn))
            self.assertNotEqual(drawn, numbers)

    def test_a_deed_that_raises_is_not_in_the_log(self):
        election = voting_one()
        before = election.log()
        for deed in (lambda: election.cast(0, [0, 1, 2]), lambda: election.withdraw(4), lambda: election.mix([])):
            with self.assertRaises((VoteError, PhaseError)):
                deed()
        self.assertEqual(election.log(), before)

    def test_undo_without_deeds(self):
        election = new()
        self.assertIs(election.undo(), False)
        self.assertEqual(state(election), state(new()))
        election.cast(0, [0, 1, 2])
        self.assertIs(election.undo(), True)
        self.assertIs(election.undo(), False)
        self.assertEqual(state(election), state(new()))

    def test_undo_of_casting(self):
        election = voting_one()
        self.assertIs(election.undo(), True)
        self.assertEqual(election.rankings, {3: [2, 0, 1], 0: [0, 1, 2]})
        self.assertEqual(election.log(), "cast 3 2 0 1\ncast 0 0 1 2\ncast 1 1 2 0\nwithdraw 1")

    def test_undo_of_withdrawing(self):
        election = voting_one()
        election.undo()
        self.assertIs(election.undo(), True)
        self.assertEqual(election.rankings, {3: [2, 0, 1], 0: [0, 1, 2], 1: [1, 2, 0]})
        self.assertEqual(election.log(), "cast 3 2 0 1\ncast 0 0 1 2\ncast 1 1 2 0")

    def test_undo_of_closing(self):
        election = mixing_one()
        self.assertIs(election.undo(), True)
        self.assertEqual(state(election), state(voting_one()))
        election.cast(4, [0, 1, 2])
        self.assertEqual(election.votes(), [0, 4, 4, 0])

    def test_undo_several_times(self):
        election = mixing_one()
        deeds = list(election.deeds)
        for left in range(len(deeds), 0, -1):
            self.assertEqual(election.deeds, deeds[:left])
            self.assertIs(election.undo(), True)
            other = new()
            for deed in deeds[:left - 1]:
                other.let(deed)
            self.assertEqual(state(election), state(other))
        self.assertIs(election.undo(), False)

    def test_an_old_ranking_comes_back(self):
        election = new()
        for ranking in ([0, 1, 2], [2, 1, 0], [1, 0, 2]):
            election.cast(0, ranking)
            election.withdraw(0)
        self.assertIs(election.undo(), True)
        self.assertEqual(election.rankings, {0: [1, 0, 2]})
        for _ in range(2):
            election.undo()
        self.assertEqual(election.rankings, {0: [2, 1, 0]})

    def test_undone_deeds_may_be_done_again(self):
        election = voting_one()
        election.undo()
        election.cast(2, [0, 1, 2])
        self.assertEqual(election.rankings[2], [0, 1, 2])
        self.assertEqual(election.deeds[-1], ("cast", [2, 0, 1, 2]))
        self.assertEqual(len(election.deeds), 5)

    def test_undo_behind_coins_that_did_not_fit(self):
        election = mixing_one()
        with self.assertRaises(BadCoins):
            election.mix([])
        self.assertIs(election.undo(), True)
        self.assertEqual(election.phase, "voting")

    def test_letting_deeds(self):
        election = new()
        self.assertIsNone(election.let(("cast", [3, 2, 0, 1])))
        self.assertIsNone(election.let(("cast", [0, 0, 1, 2])))
        self.assertIsNone(election.let(("cast", [1, 1, 2, 0])))
        self.assertIsNone(election.let(("withdraw", [1])))
        self.assertIsNone(election.let(("cast", [2, 2, 0, 1])))
        self.assertEqual(state(election), state(voting_one()))
        self.assertIsNone(election.let(("close", [])))
        self.assertEqual(state(election), state(mixing_one()))
        self.assertIsNone(election.let(("mix", numbers_from(0, election.needed()))))
        self.assertEqual(state(election), state(open_one()))

    def test_letting_deeds_that_raise(self):
        election = voting_one()
        for deed in (("cast", [0, 0, 1, 2]), ("cast", [4, 0, 1]), ("cast", [9, 0, 1, 2]), ("withdraw", [4])):
            with self.assertRaises(VoteError) as caught:
                election.let(deed)
            self.assertEqual(caught.exception.voter, deed[1][0])
        election.let(("close", []))
        with self.assertRaises(BadCoins):
            election.let(("mix", [1, 2]))


class ReplayTest(unittest.TestCase):
    """Point 52: the log, read and done in a new election."""

    def replay(self, text, options=3, voters=5):
        return replayed(text, options=options, mixers=3, family=FAMILY, voters=voters)

    def assert_same(self, election, options=3, voters=5):
        other = self.replay(election.log(), options, voters)
        self.assertIsInstance(other, Election)
        self.assertEqual(state(other), state(election))
        self.assertEqual(other.log(), election.log())
        if election.phase == "open":
            self.assertEqual(other.opened(), election.opened())

    def test_each_phase(self):
        self.assert_same(new())
        for made in PHASES.values():
            self.assert_same(made())
        for seed in range(5):
            self.assert_same(open_one(seed))

    def test_behind_undone_deeds(self):
        election = mixing_one()
        while election.undo():
            self.assert_same(election)

    def test_elections_of_all_sizes(self):
        for options, voters in product(range(1, 7), (0, 1, 3, 40)):
            self.assert_same(opened_election(options, rankings_of(options, voters, options)), options, voters)

    def test_no_deeds(self):
        self.assertEqual(state(self.replay("")), state(new()))

    def test_the_first_line_that_is_no_deed(self):
        for line, text in ((1, "\n"), (2, "close\n"), (2, "cast 0 0 1 2\ncast 1 2 0  1"), (1, "vote 0"),
                           (3, "close\nmix 0\nwithdraw\nclose 1")):
            with self.assertRaises(LineError) as caught:
                self.replay(text)
            self.assertEqual(caught.exception.line, line)

    def test_the_whole_text_is_read_first(self):
        # The second deed could not be done, but the third line is none.
        with self.assertRaises(LineError) as caught:
            self.replay("close\nclose\nclosed")
        self.assertEqual(caught.exception.line, 3)

    def test_what_the_deeds_raise(self):
        with self.assertRaises(PhaseError) as caught:
            self.replay("close\nclose")
        self.assertEqual(caught.exception.phase, "mixing")
        with self.assertRaises(PhaseError) as caught:
            self.replay("mix 0 0")
        self.assertEqual(caught.exception.phase, "voting")
        with self.assertRaises(VoteError) as caught:
            self.replay("cast 0 0 1 2\ncast 5 0 1 2")
        self.assertEqual(caught.exception.voter, 5)
        with self.assertRaises(VoteError) as caught:
            self.replay("cast 4 0 1")
        self.assertEqual(caught.exception.voter, 4)
        with self.assertRaises(VoteError):
            self.replay("withdraw 0")
        with self.assertRaises(BadCoins) as caught:
            self.replay("close\nmix 0 0 0")
        self.assertEqual((caught.exception.due, caught.exception.given), (2, 3))

    def test_a_family_that_is_none(self):
        with self.assertRaises(BadLots):
            replayed("", options=3, mixers=3, family=[[0], [1, 2]], voters=2)

    def test_a_log_is_a_text_that_can_be_read(self):
        for made in PHASES.values():
            election = made()
            self.assertEqual(read_log(election.log()), election.deeds)
            self.assertEqual(write_log(election.deeds), election.log())


class AnswersTest(unittest.TestCase):
    """Points 17, 25, 29 and 52: what an open election answers are the tallies of the rankings that were cast."""

    def assert_answers(self, election, cast, options):
        opened = election.opened()
        self.assertEqual(sorted(opened), sorted(cast))
        self.assertEqual([ballot_number(ranking) for ranking in opened], election.record.opened)
        self.assertEqual(election.first_places(), first_counts(cast, list(range(options))))
        self.assertEqual(leaders(election.first_places()), leaders(counts([row[0] for row in cast], options)))
        self.assertEqual(election.runoff(), runoff(cast, options))
        self.assertEqual(election.points(), points(cast, options))
        self.assertEqual(election.beats_all(), beats_all(cast, options))
        self.assertEqual(pairs(opened, options), pairs(cast, options))

    def test_by_hand(self):
        election = open_one()
        self.assertEqual(sorted(election.opened()), [[0, 1, 2], [2, 0, 1], [2, 0, 1]])
        self.assertEqual(election.first_places(), [1, 0, 2])
        self.assertEqual(election.runoff(), ([([0, 1, 2], [1, 0, 2], None)], 2))
        self.assertEqual(election.points(), [4, 1, 4])
        self.assertEqual(election.beats_all(), 2)

    def test_the_rankings_that_were_cast(self):
        for options, voters in product(range(1, 7), (0, 1, 2, 3, 7, 12)):
            for seed in range(4):
                cast = rankings_of(options, voters, seed)
                self.assert_answers(opened_election(options, cast, seed), cast, options)

    def test_rankings_that_were_withdrawn_do_not_count(self):
        for seed in range(10):
            election = new(4, 8)
            cast = rankings_of(4, 8, seed)
            for voter, ranking in enumerate(cast):
                election.cast(voter, ranking[::-1])
            for voter in (1, 3, 5, 7):
                election.withdraw(voter)
            for voter in (3, 7):
                election.cast(voter, cast[voter])
            election.close()
            election.mix(numbers_from(seed, election.needed()))
            left = [cast[voter] if voter in (3, 7) else cast[voter][::-1] for voter in (0, 2, 3, 4, 6, 7)]
            self.assert_answers(election, left, 4)

    def test_the_opened_rankings_are_in_the_order_of_the_opened_values(self):
        found = []
        for seed in range(30):
            election = opened_election(3, [[0, 1, 2], [1, 0, 2], [2, 1, 0]], seed)
            found.append(tuple(election.record.opened))
            self.assertEqual([ballot_number(ranking) for ranking in election.opened()], election.record.opened)
        # They do come in several orders.
        self.assertGreater(len(set(found)), 3)

    def test_the_view_of_a_lot(self):
        election = open_one()
        for lot in ([], [0], [1], [0, 1], [0, 1, 2]):
            self.assertEqual(election.seen_by(lot), view(election.record, lot))


class CopiesTest(unittest.TestCase):
    """Point 3."""

    def test_what_is_passed_in_stays(self):
        family, ranking, lot = [[0], [1]], [2, 0, 1], [0]
        election = Election(options=3, mixers=3, family=family, voters=5)
        election.family[0].append(2)
        election.family.append([])
        self.assertEqual(family, [[0], [1]])
        election.family = [[0], [1]]
        election.cast(0, ranking)
        election.rankings[0].append(9)
        election.rankings[0].pop()
        election.deeds[0][1].append(9)
        election.deeds[0][1].pop()
        election.close()
        numbers = numbers_from(0, election.needed())
        before = list(numbers)
        election.mix(numbers)
        election.deeds[-1][1].append(9)
        election.seen_by(lot)
        self.assertEqual((ranking, numbers, lot), ([2, 0, 1], before, [0]))

    def test_what_is_passed_in_may_change_later(self):
        family, ranking = [[0], [1]], [2, 0, 1]
        election = Election(options=3, mixers=3, family=family, voters=5)
        election.cast(0, ranking)
        ranking.reverse()
        family[0].append(2)
        self.assertEqual(election.rankings, {0: [2, 0, 1]})
        self.assertEqual(election.family, [[0], [1]])
        self.assertEqual(election.log(), "cast 0 2 0 1")
        deed = ("cast", [1, 1, 2, 0])
        election.let(deed)
        deed[1].append(9)
        self.assertEqual(election.log(), "cast 0 2 0 1\ncast 1 1 2 0")
        self.assertEqual(election.rankings[1], [1, 2, 0])
        election.undo()
        election.rankings[0].reverse()
        election.rankings[0].reverse()
        self.assertEqual(deed, ("cast", [1, 1, 2, 0, 9]))

    def test_what_is_returned_is_new(self):
        election = open_one()
        before = state(election)
        election.votes().append(9)
        for ranking in election.opened():
            ranking.append(9)
        election.opened().append(9)
        election.first_places().append(9)
        election.runoff()[0].append(9)
        election.points().append(9)
        self.assertEqual(state(election), before)
        self.assertEqual(len(election.opened()), 3)

    def test_elections_are_apart(self):
        one, other = new(), new()
        one.cast(0, [0, 1, 2])
        self.assertEqual(state(other), state(new()))


if __name__ == "__main__":
    unittest.main()
