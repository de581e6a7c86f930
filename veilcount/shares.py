"""Splitting values into pieces, and tables of shares."""

from veilcount.field import total


def split(prime, value, coins):
    """Return the pieces of a value: the coins, and the piece that is left."""
    pieces = [coin % prime for coin in coins]
    pieces.append((value - sum(pieces)) % prime)
    return pieces


def join(prime, pieces):
    """Return the value of pieces."""
    return total(prime, pieces)


def fresh_table(prime, votes, coins):
    """Return the first table; coins has a list for each vote."""
    return [split(prime, vote, coins[row]) for row, vote in enumerate(votes)]


def values_of(prime, table):
    """Return the values of the rows of a table."""
    return [total(prime, row) for row in table]


def column(table, mixer):
    """Return the shares of a mixer, row by row."""
    return [row[mixer] for row in table]


def changed_table(prime, table, mixer, differences):
    """Return a table with a difference for each row added to the shares of a mixer."""
    changed = []
    for place, row in enumerate(table):
        fresh = list(row)
        fresh[mixer] = (row[mixer] + differences[place]) % prime
        changed.append(fresh)
    return changed
