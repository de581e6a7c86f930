"""Tags: a vote, a made up key and their product go through three runs with the same orders."""

from veilcount.coins import RunCoins, StageCoins
from veilcount.field import inverse
from veilcount.runs import run
from veilcount.shares import column
from veilcount.swaps import check_inside, exchange_of, swapped


def triple(p, vote, key):
    """Return the vote, the key and their product modulo the prime."""
    return vote, key, vote * key % p


def passes(p, row):
    """Return whether the third number of a row is the product of the others modulo the prime."""
    return (row[0] * row[1] - row[2]) % p == 0


def disturbed(p, row, differences):
    """Return the row with the differences added, modulo the prime."""
    return tuple([(number + more) % p for number, more in zip(row, differences)])


def keys_that_pass(p, vote, differences):
    """Return the keys with which the disturbed triple of a vote passes, ascending."""
    vote_more, key_more, product_more = differences
    # The row passes if the key times the difference of the vote is this number.
    due = product_more - vote * key_more - vote_more * key_more
    if vote_more % p != 0:
        return [due * inverse(p, vote_more) % p]
    return list(range(p)) if due % p == 0 else []


def run_tagged(p, mixers, family, rows, coins):
    """Return the records of three runs, one for each number of the rows, with the same orders."""
    ready = tagged_coins(coins)
    return [run(p, mixers, family, column(rows, place), ready[place]) for place in range(3)]


def tagged_coins(coins):
    """Return the coins of three runs, all with the orders of the first coins."""
    return [with_orders(drawn, orders_of(coins[0])) for drawn in coins]


def orders_of(coins):
    """Return the orders of the stages."""
    return [list(stage.order) for stage in coins.stages]


def with_orders(coins, orders):
    """Return coins with other orders."""
    stages = []
    for place, stage in enumerate(coins.stages):
        # A stage too many stays, so that a run still finds the coins too many.
        order = orders[place] if place < len(orders) else stage.order
        stages.append(StageCoins(stage.gather, order, stage.spread))
    return RunCoins(coins.votes, stages)


def opened_rows(records):
    """Return the opened rows of three numbers."""
    first, second, third = records
    return list(zip(first.opened, second.opened, third.opened))


def failing_rows(p, rows):
    """Return the numbers of the rows that do not pass, ascending."""
    return [place for place, row in enumerate(rows) if not passes(p, row)]


def swapped_tagged(p, mixers, family, lot, rows, others, coins):
    """Return the three other coins for other rows, with one matching of whole rows."""
    check_inside(lot, family)
    exchange = exchange_of([tuple(row) for row in others], [tuple(row) for row in rows], None)
    ready = tagged_coins(coins)
    return [swapped(p, mixers, family, lot, column(rows, place), column(others, place), ready[place], exchange)
            for place in range(3)]
