"""Elections: rankings are cast, the voting is closed, and the rankings are mixed and opened."""

from veilcount.ballots import ballot_number, ballot_prime, ranking_of
from veilcount.coins import coins_of, flat, size
from veilcount.errors import PhaseError, VoteError
from veilcount.log import read_log, write_log
from veilcount.lots import checked_family
from veilcount.perms import is_order
from veilcount.runs import run
from veilcount.tallies import beats_all, first_counts, points, runoff
from veilcount.views import view

VOTING = "voting"
MIXING = "mixing"
OPEN = "open"


class Election:
    """An election of options by rankings; deeds has what was done and not taken back."""

    def __init__(self, *, options, mixers, family, voters):
        self.options = options
        self.mixers = mixers
        self.family = checked_family(family, mixers)
        self.voters = voters
        self.prime = ballot_prime(options)
        self._begin()

    def _begin(self):
        """Set all that deeds change to what it is at first."""
        self.phase = VOTING
        self.rankings = {}
        self.deeds = []
        self.record = None

    def _check_phase(self, phase):
        """Raise an error if the election is in another phase."""
        if self.phase != phase:
            raise PhaseError(self.phase)

    def cast(self, voter, ranking):
        """Give the ranking of a voter."""
        self._check_phase(VOTING)
        is_whole = len(ranking) == self.options and is_order(ranking)
        if voter < 0 or voter >= self.voters or voter in self.rankings or not is_whole:
            raise VoteError(voter)
        self.rankings[voter] = list(ranking)
        self.deeds.append(("cast", [voter] + list(ranking)))

    def withdraw(self, voter):
        """Take the ranking of a voter back."""
        self._check_phase(VOTING)
        if voter not in self.rankings:
            raise VoteError(voter)
        del self.rankings[voter]
        self.deeds.append(("withdraw", [voter]))

    def close(self):
        """Close the voting."""
        self._check_phase(VOTING)
        self.phase = MIXING
        self.deeds.append(("close", []))

    def mix(self, numbers):
        """Mix the rankings by numbers for the coins, and open them."""
        self._check_phase(MIXING)
        votes = self.votes()
        coins = coins_of(numbers, prime=self.prime, mixers=self.mixers, family=self.family, rows=len(votes))
        self.record = run(self.prime, self.mixers, self.family, votes, coins)
        self.phase = OPEN
        self.deeds.append(("mix", flat(coins)))

    def undo(self):
        """Take the last deed back and return True; without deeds return False."""
        if self.phase == OPEN:
            raise PhaseError(self.phase)
        if not self.deeds:
            return False
        left = self.deeds[:-1]
        self._begin()
        for deed in left:
            self.let(deed)
        return True

    def let(self, deed):
        """Do a deed of the log."""
        word, numbers = deed
        if word == "cast":
            self.cast(numbers[0], numbers[1:])
        elif word == "withdraw":
            self.withdraw(numbers[0])
        elif word == "close":
            self.close()
        elif word == "mix":
            self.mix(numbers)

    def votes(self):
        """Return the numbers of the rankings, by ascending voters."""
        return [ballot_number(self.rankings[voter]) for voter in sorted(self.rankings)]

    def needed(self):
        """Return how many numbers mixing takes."""
        return size(self.mixers, self.family, len(self.rankings))

    def opened(self):
        """Return the opened rankings, in their order."""
        self._check_phase(OPEN)
        return [ranking_of(self.options, number) for number in self.record.opened]

    def first_places(self):
        """Return for each option how many opened rankings have it first."""
        return first_counts(self.opened(), list(range(self.options)))

    def runoff(self):
        """Return the rounds of the runoff of the opened rankings, and the winner or None."""
        return runoff(self.opened(), self.options)

    def points(self):
        """Return the points of the options in the opened rankings."""
        return points(self.opened(), self.options)

    def beats_all(self):
        """Return the option that beats all in the opened rankings, or None."""
        return beats_all(self.opened(), self.options)

    def seen_by(self, lot):
        """Return the view of a lot."""
        self._check_phase(OPEN)
        return view(self.record, lot)

    def log(self):
        """Return the text of the log."""
        return write_log(self.deeds)


def replayed(text, *, options, mixers, family, voters):
    """Return the election of a log."""
    deeds = read_log(text)
    election = Election(options=options, mixers=mixers, family=family, voters=voters)
    for deed in deeds:
        election.let(deed)
    return election
