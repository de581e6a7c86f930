"""The three steps of a stage: gathering, ordering, spreading."""

from veilcount.copies import copied
from veilcount.field import total
from veilcount.perms import moved
from veilcount.shares import column, split


class StageRecord:
    """All that happens in a stage; spread and table are filled in behind the ordering."""

    def __init__(self, holders, gathered, held, order):
        self.holders = copied(holders)
        self.gathered = copied(gathered)
        self.held = copied(held)
        self.order = copied(order)
        self.ordered = moved(held, order)
        self.spread = []
        self.table = []


def outsiders(mixers, holders):
    """Return the mixers that are no holders, ascending."""
    return [mixer for mixer in range(mixers) if mixer not in holders]


def gathered_pieces(prime, table, others, coins):
    """Return for each mixer that is no holder, for each row, its pieces."""
    return [_pieces(prime, column(table, mixer), coins[place]) for place, mixer in enumerate(others)]


def held_shares(prime, table, holders, pieces):
    """Return for each row the held shares of the holders."""
    held = []
    for row, shares in enumerate(table):
        own = [shares[holder] for holder in holders]
        held.append(_added(prime, [own] + _gifts(pieces, row), len(holders)))
    return held


def spread_pieces(prime, ordered, many, coins):
    """Return for each of many holders, for each row, its pieces."""
    return [_pieces(prime, column(ordered, place), coins[place]) for place in range(many)]


def new_table(prime, pieces, mixers, rows):
    """Return the table of what each mixer gets from the holders."""
    return [_added(prime, _gifts(pieces, row), mixers) for row in range(rows)]


def _pieces(prime, shares, coins):
    """Return for each of the shares of a mixer its pieces."""
    return [split(prime, share, coins[row]) for row, share in enumerate(shares)]


def _gifts(pieces, row):
    """Return for each mixer that splits its shares the pieces of a row."""
    return [given[row] for given in pieces]


def _added(prime, rows, length):
    """Return the sums of rows of this length, place by place."""
    return [total(prime, column(rows, place)) for place in range(length)]


def run_stage(prime, mixers, table, holders, coins):
    """Return the record of a stage with these holders on a table."""
    others = outsiders(mixers, holders)
    gathered = gathered_pieces(prime, table, others, coins.gather)
    held = held_shares(prime, table, holders, gathered)
    stage = StageRecord(holders, gathered, held, coins.order)
    stage.spread = spread_pieces(prime, stage.ordered, len(holders), coins.spread)
    stage.table = new_table(prime, stage.spread, mixers, len(table))
    return stage
