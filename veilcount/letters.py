"""Runs by letters: mixers that work with what has arrived, in whatever order it does."""

from veilcount.coins import twin
from veilcount.copies import copied
from veilcount.field import total
from veilcount.lots import holders
from veilcount.perms import moved
from veilcount.shares import column, split
from veilcount.stages import outsiders

VOTERS_STAGE = -1
BOARD = -1


class Setting:
    """What a run by letters is about: a prime, mixers, a family, and how many rows there are."""

    def __init__(self, prime, mixers, family, rows):
        self.prime = prime
        self.mixers = mixers
        self.family = copied(family)
        self.rows = rows


class Mixer:
    """A mixer with its shares, the stage in which it is, and the letters that it has."""

    def __init__(self, setting, number, coins):
        self.setting = setting
        self.number = number
        self.coins = coins
        self.stage = VOTERS_STAGE
        self.shares = []
        self.has_ordered = False
        self.got = {}

    def take(self, letter):
        """Take a letter; it waits until its turn comes."""
        kind, stage, sender, _, numbers = letter
        self.got[kind, stage, sender] = list(numbers)

    def work(self):
        """Do all that can be done now, and return the letters that are sent."""
        sent = []
        going = True
        while going:
            if self._may_order():
                sent.extend(self._order())
            elif self._may_begin():
                sent.extend(self._begin())
            else:
                going = False
        return sent

    def _holders(self):
        """Return the holders of the stage."""
        return holders(self.setting.family[self.stage], self.setting.mixers)

    def _others(self):
        """Return the mixers that are no holders in the stage."""
        return outsiders(self.setting.mixers, self._holders())

    def _drawn(self):
        """Return the coins of the stage."""
        return self.coins.stages[self.stage]

    def _is_holder(self):
        """Return whether the mixer is in a stage, and a holder there."""
        return 0 <= self.stage < len(self.setting.family) and self.number in self._holders()

    def _has_all(self, kind, senders):
        """Return whether the letters of this kind of all senders are there, for this stage."""
        return all([(kind, self.stage, sender) in self.got for sender in senders])

    def _may_order(self):
        """Return whether the mixer has all that it needs to order the rows, and has not done it yet."""
        return self._is_holder() and not self.has_ordered and self._has_all("gather", self._others())

    def _may_begin(self):
        """Return whether the mixer has all that it needs to begin the next stage."""
        if self.stage == VOTERS_STAGE:
            return self._has_all("vote", list(range(self.setting.rows)))
        if self.stage == len(self.setting.family):
            return False
        # A holder needs its own letter as well, so it is behind its own ordering.
        return self._has_all("spread", self._holders())

    def _begin(self):
        """Begin the next stage, and return the letters that are sent at once."""
        self.shares = self._new_shares()
        self.stage += 1
        self.has_ordered = False
        if self.stage == len(self.setting.family):
            return [("show", self.stage, self.number, BOARD, list(self.shares))]
        if self._is_holder():
            return []
        coins = self._drawn().gather[self._others().index(self.number)]
        return self._letters("gather", self._holders(), self._pieces(self.shares, coins))

    def _new_shares(self):
        """Return the shares that the mixer has behind its stage."""
        if self.stage == VOTERS_STAGE:
            return [self.got["vote", self.stage, row][0] for row in range(self.setting.rows)]
        return self._sums([self.got["spread", self.stage, holder] for holder in self._holders()])

    def _order(self):
        """Order the held shares, and return the letters of the spreading."""
        self.has_ordered = True
        gifts = [self.got["gather", self.stage, mixer] for mixer in self._others()]
        ordered = moved(self._sums([self.shares] + gifts), self._drawn().order)
        coins = self._drawn().spread[self._holders().index(self.number)]
        return self._letters("spread", list(range(self.setting.mixers)), self._pieces(ordered, coins))

    def _sums(self, lists):
        """Return for each row the sum of the numbers in several lists."""
        return [total(self.setting.prime, column(lists, row)) for row in range(self.setting.rows)]

    def _pieces(self, shares, coins):
        """Return for each row the pieces of a share."""
        return [split(self.setting.prime, share, coins[row]) for row, share in enumerate(shares)]

    def _letters(self, kind, receivers, pieces):
        """Return the letters that give each receiver its pieces, row by row."""
        return [(kind, self.stage, self.number, receiver, column(pieces, place))
                for place, receiver in enumerate(receivers)]


class Net:
    """The letters on their way, the mixers, and the board."""

    def __init__(self, setting, votes, coins):
        self.setting = setting
        self.bag = []
        self.board = {}
        drawn = twin(coins)
        self._mixers = [Mixer(setting, number, drawn) for number in range(setting.mixers)]
        for row, vote in enumerate(votes):
            for number, piece in enumerate(split(setting.prime, vote, drawn.votes[row])):
                self.bag.append(("vote", VOTERS_STAGE, row, number, [piece]))
        # Without rows there is no letter to wait for.
        for mixer in self._mixers:
            self.bag.extend(mixer.work())

    def deliver(self, place):
        """Deliver the letter at a place of the bag, and return it."""
        letter = self.bag.pop(place)
        kind, _, sender, receiver, numbers = letter
        if kind == "show":
            self.board[sender] = list(numbers)
            return letter
        mixer = self._mixers[receiver]
        mixer.take(letter)
        self.bag.extend(mixer.work())
        return letter

    def table(self):
        """Return the table of the board, or None if some mixer has not shown its shares."""
        mixers = list(range(self.setting.mixers))
        if not all([mixer in self.board for mixer in mixers]):
            return None
        return [[self.board[mixer][row] for mixer in mixers] for row in range(self.setting.rows)]


def run_letters(setting, votes, coins, picks):
    """Return the table of the board behind all letters, delivered by picks and then always the first one."""
    net = Net(setting, votes, coins)
    for pick in picks:
        if net.bag:
            net.deliver(pick % len(net.bag))
    while net.bag:
        net.deliver(0)
    return net.table()
