"""Numbers for coins, always the same ones, so that a test that fails fails again."""

from copy import deepcopy
from itertools import combinations

from veilcount.coins import coins_of, size


def numbers_from(seed, many, spread=1000):
    """Return many numbers from -spread up to spread."""
    numbers = []
    state = seed
    for _ in range(many):
        state = (state * 6364136223846793005 + 1442695040888963407) % 2 ** 64
        numbers.append((state >> 33) % (2 * spread + 1) - spread)
    return numbers


def drawn(prime, mixers, family, votes, seed=0):
    """Return coins for a run of these votes."""
    numbers = numbers_from(seed, size(mixers, family, len(votes)), spread=10 ** 7)
    return coins_of(numbers, prime=prime, mixers=mixers, family=family, rows=len(votes))


def parts(coins):
    """Return all that the coins of a run hold, as plain lists of their own."""
    return deepcopy((coins.votes, [(stage.gather, stage.order, stage.spread) for stage in coins.stages]))


def stage_fields(stage):
    """Return all that the record of a stage holds."""
    return (stage.holders, stage.gathered, stage.held, stage.order, stage.ordered, stage.spread, stage.table)


def record_fields(record):
    """Return all that the record of a run holds, as plain lists of their own."""
    return deepcopy((record.prime, record.mixers, record.family, record.table,
                     [stage_fields(stage) for stage in record.stages], record.opened))


def all_lots(mixers):
    """Return all lots of these mixers, the smaller ones first."""
    return [list(lot) for many in range(mixers + 1) for lot in combinations(range(mixers), many)]
