"""Counts, leaders, runoffs, pair tables and points."""

from veilcount.ballots import best_of


def counts(values, options):
    """Return how often each option is among the values."""
    numbers = [0] * options
    for value in values:
        if 0 <= value < options:
            numbers[value] += 1
    return numbers


def leaders(numbers):
    """Return the places of the greatest numbers, ascending."""
    greatest = max(numbers, default=None)
    return [place for place, number in enumerate(numbers) if number == greatest]


def first_counts(rankings, left):
    """Return for each option that is left how many rankings count for it."""
    firsts = [best_of(ranking, left) for ranking in rankings]
    return [firsts.count(option) for option in left]


def weakest(left, numbers):
    """Return the option with the least count, the last one of several."""
    least = min(numbers, default=None)
    gone = None
    for option, number in zip(left, numbers):
        if number == least:
            gone = option
    return gone


def runoff(rankings, options):
    """Return the rounds of a runoff, and the winner or None."""
    left = list(range(options))
    rounds = []
    while left:
        numbers = first_counts(rankings, left)
        winner = _winner(left, numbers, len(rankings))
        if winner is not None:
            rounds.append((left, numbers, None))
            return rounds, winner
        gone = weakest(left, numbers)
        rounds.append((left, numbers, gone))
        left = [option for option in left if option != gone]
    return rounds, None


def _winner(left, numbers, many):
    """Return the only option left, or the one with more than half of many rankings, or None."""
    if len(left) == 1:
        return left[0]
    for option, number in zip(left, numbers):
        if 2 * number > many:
            return option
    return None


def pairs(rankings, options):
    """Return for each option and each other one how many rankings have it ahead."""
    table = [[0] * options for _ in range(options)]
    for ranking in rankings:
        for place, option in enumerate(ranking):
            for other in ranking[place + 1:]:
                table[option][other] += 1
    return table


def beats_all(rankings, options):
    """Return the option that more rankings have ahead than behind of each other one, or None."""
    table = pairs(rankings, options)
    for option in range(options):
        if all([table[option][other] > table[other][option] for other in range(options) if other != option]):
            return option
    return None


def points(rankings, options):
    """Return for each option how many options stand behind it, in all rankings together."""
    return [sum(row) for row in pairs(rankings, options)]
