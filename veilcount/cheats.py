"""Mixers that change shares, and what becomes of the opened values."""

from veilcount.copies import copied
from veilcount.lots import holders
from veilcount.perms import undone
from veilcount.runs import RunRecord, check_run, last_table
from veilcount.shares import fresh_table, values_of
from veilcount.stages import run_stage


def changed_at(prime, table, changes, stage):
    """Return a table with the changes ahead of a stage."""
    fresh = copied(table)
    for place, row, mixer, difference in changes:
        if place == stage:
            fresh[row][mixer] = (fresh[row][mixer] + difference) % prime
    return fresh


def run_changed(prime, mixers, family, votes, coins, changes):
    """Return the record of a run with changes; all its tables are the changed ones."""
    check_run(prime, mixers, family, votes, coins)
    table = changed_at(prime, fresh_table(prime, votes, coins.votes), changes, 0)
    record = RunRecord(prime, mixers, family, table)
    for place, lot in enumerate(family):
        stage = run_stage(prime, mixers, table, holders(lot, mixers), coins.stages[place])
        stage.table = changed_at(prime, stage.table, changes, place + 1)
        record.stages.append(stage)
        table = stage.table
    record.opened = values_of(prime, last_table(record))
    return record


def end_of(coins, stage, row):
    """Return the opened row at which a row of the table ahead of a stage ends."""
    place = row
    for drawn in coins.stages[stage:]:
        place = undone(drawn.order)[place]
    return place


def shifts(prime, coins, changes, rows):
    """Return for each opened row what the changes add, modulo the prime."""
    added = [0] * rows
    for stage, row, _, difference in changes:
        end = end_of(coins, stage, row)
        added[end] = (added[end] + difference) % prime
    return added
