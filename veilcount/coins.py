"""Coins: what voters and mixers draw, as lists and as a row of numbers."""

from veilcount.copies import copied
from veilcount.errors import BadCoins
from veilcount.lots import holders
from veilcount.perms import factorial, order_number, order_of_number


class StageCoins:
    """The coins of a stage."""

    def __init__(self, gather, order, spread):
        self.gather = copied(gather)
        self.order = copied(order)
        self.spread = copied(spread)


class RunCoins:
    """The coins of a run: a list for each vote, and the coins of each stage."""

    def __init__(self, votes, stages):
        self.votes = copied(votes)
        # The coins of a stage hold lists of numbers as well, so they are copied too.
        self.stages = [StageCoins(stage.gather, stage.order, stage.spread) for stage in stages]


def stage_size(mixers, lot, rows):
    """Return how many numbers the coins of a stage have."""
    many = len(holders(lot, mixers))
    gathering = (mixers - many) * rows * (many - 1)
    spreading = many * rows * (mixers - 1)
    return gathering + 1 + spreading


def size(mixers, family, rows):
    """Return how many numbers the coins of a run have."""
    return rows * (mixers - 1) + sum([stage_size(mixers, lot, rows) for lot in family])


def coins_of(numbers, *, prime, mixers, family, rows):
    """Return the coins that are read from a list of numbers."""
    due = size(mixers, family, rows)
    if len(numbers) != due:
        raise BadCoins(due, len(numbers))
    end = rows * (mixers - 1)
    votes = _cut(_reduced(prime, numbers[:end]), rows, mixers - 1)
    stages = []
    for lot in family:
        start = end
        end = start + stage_size(mixers, lot, rows)
        stages.append(_stage_coins_of(numbers[start:end], prime, mixers, lot, rows))
    return RunCoins(votes, stages)


def _stage_coins_of(numbers, prime, mixers, lot, rows):
    """Return the coins of a stage that are read from the numbers of this stage."""
    many = len(holders(lot, mixers))
    others = mixers - many
    place = others * rows * (many - 1)
    gather = _cut(_reduced(prime, numbers[:place]), others * rows, many - 1)
    order = order_of_number(rows, numbers[place] % factorial(rows))
    spread = _cut(_reduced(prime, numbers[place + 1:]), many * rows, mixers - 1)
    return StageCoins(_cut(gather, others, rows), order, _cut(spread, many, rows))


def _reduced(prime, numbers):
    """Return the numbers modulo the prime."""
    return [number % prime for number in numbers]


def _cut(whole, many, length):
    """Return a list, cut into many lists of this length."""
    return [whole[place * length:(place + 1) * length] for place in range(many)]


def flat(coins):
    """Return the numbers of coins; the number of an order stands for it."""
    numbers = [coin for row in coins.votes for coin in row]
    for stage in coins.stages:
        numbers.extend(_drawn(stage.gather))
        numbers.append(order_number(stage.order))
        numbers.extend(_drawn(stage.spread))
    return numbers


def _drawn(coins):
    """Return the coins of the gathering or of the spreading, one after another."""
    return [coin for rows in coins for row in rows for coin in row]


def twin(coins):
    """Return a copy of coins."""
    return RunCoins(coins.votes, coins.stages)


def check_coins(coins, mixers, family, rows):
    """Raise an error if the coins of a run are more or fewer than are needed, in any place."""
    if not _fit(coins, mixers, family, rows):
        raise BadCoins(size(mixers, family, rows), _many_numbers(coins))


def _many_numbers(coins):
    """Return how many numbers there are, also where an order is none and has no number."""
    drawn = sum([len(_drawn(stage.gather)) + len(_drawn(stage.spread)) for stage in coins.stages])
    return sum([len(row) for row in coins.votes]) + len(coins.stages) + drawn


def _fit(coins, mixers, family, rows):
    """Return whether there are just the coins that are needed, in each place."""
    if len(coins.stages) != len(family) or not _is_block(coins.votes, rows, mixers - 1):
        return False
    return all([_stage_fits(stage, mixers, lot, rows) for stage, lot in zip(coins.stages, family)])


def _stage_fits(stage, mixers, lot, rows):
    """Return whether a stage of a lot has just the coins that are needed, in each place."""
    many = len(holders(lot, mixers))
    gathering = _are_blocks(stage.gather, mixers - many, rows, many - 1)
    return gathering and _are_blocks(stage.spread, many, rows, mixers - 1)


def _are_blocks(blocks, many, rows, length):
    """Return whether there are so many lists, each with so many rows of this length."""
    return len(blocks) == many and all([_is_block(block, rows, length) for block in blocks])


def _is_block(block, rows, length):
    """Return whether a list has so many rows, each of this length."""
    return len(block) == rows and all([len(row) == length for row in block])
