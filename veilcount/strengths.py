"""Strengths: chains of wins between options."""

from veilcount.tallies import pairs


def wins(rankings, options):
    """Return for each option and each other one the number of its wins, 0 if it does not win."""
    table = pairs(rankings, options)
    return [[number if number > table[other][option] else 0 for other, number in enumerate(row)]
            for option, row in enumerate(table)]


def strengths(rankings, options):
    """Return for each option and each other one the greatest strength of a chain, 0 if there is none."""
    table = wins(rankings, options)
    # Behind each round the strengths are those of chains that go by the options so far only.
    for between in range(options):
        table = [[max(number, min(row[between], table[between][other])) for other, number in enumerate(row)]
                 for row in table]
    return [[0 if other == option else number for other, number in enumerate(row)]
            for option, row in enumerate(table)]


def strongest(rankings, options):
    """Return the options to which no other one has a greater strength than they have to it, ascending."""
    table = strengths(rankings, options)
    return [option for option in range(options)
            if all([table[option][other] >= table[other][option] for other in range(options)])]


def chain_of(rankings, options, start, end):
    """Return a shortest one of the strongest chains from the start to the end, or None."""
    strength = strengths(rankings, options)[start][end]
    if strength == 0:
        return None
    table = wins(rankings, options)
    seen = [start]
    chains = [[start]]
    # Shorter chains come first, so no other one reaches an option with fewer options.
    while chains:
        chain = chains.pop(0)
        if chain[-1] == end:
            return chain
        for option, number in enumerate(table[chain[-1]]):
            if number >= strength and option not in seen:
                seen.append(option)
                chains.append(chain + [option])
    return None
