"""Runs: the first table, a stage for each lot, and the opened values."""

from veilcount.coins import check_coins
from veilcount.copies import copied
from veilcount.errors import BadValue
from veilcount.field import checked_prime
from veilcount.lots import checked_family, holders
from veilcount.perms import chained
from veilcount.shares import fresh_table, values_of
from veilcount.stages import run_stage


class RunRecord:
    """All that happens in a run; stages and opened are filled in by it."""

    def __init__(self, prime, mixers, family, table):
        self.prime = prime
        self.mixers = mixers
        self.family = copied(family)
        self.table = copied(table)
        self.stages = []
        self.opened = []


def run(prime, mixers, family, votes, coins):
    """Return the record of a run of votes with these coins."""
    check_run(prime, mixers, family, votes, coins)
    record = RunRecord(prime, mixers, family, fresh_table(prime, votes, coins.votes))
    record.stages = _run_stages(record, coins.stages)
    record.opened = values_of(prime, last_table(record))
    return record


def check_run(prime, mixers, family, votes, coins):
    """Raise an error for the first of the arguments of a run that does not fit."""
    checked_prime(prime)
    checked_family(family, mixers)
    check_votes(prime, votes)
    check_coins(coins, mixers, family, len(votes))


def _run_stages(record, coins):
    """Return the records of all stages, each on the table behind the stage before."""
    table = record.table
    stages = []
    for lot, drawn in zip(record.family, coins):
        stage = run_stage(record.prime, record.mixers, table, holders(lot, record.mixers), drawn)
        stages.append(stage)
        table = stage.table
    return stages


def last_table(record):
    """Return the table behind the last stage; without stages, the first table."""
    if not record.stages:
        return copied(record.table)
    return copied(record.stages[-1].table)


def check_votes(prime, votes):
    """Raise an error for the first vote that is not a value."""
    for vote in votes:
        if vote < 0 or vote >= prime:
            raise BadValue(vote)


def whole_order(record):
    """Return the orders of all stages chained."""
    order = list(range(len(record.table)))
    for stage in record.stages:
        order = chained(order, stage.order)
    return order
