"""Margins: how few changed votes make another option lead alone."""

from veilcount.tallies import leaders


def strongest_other(numbers, option):
    """Return the option with the greatest count but for this one, the first one of several, or None."""
    found = None
    for other, number in enumerate(numbers):
        if other != option and (found is None or number > numbers[found]):
            found = other
    return found


def leads(numbers, option):
    """Return whether an option leads alone."""
    return leaders(numbers) == [option]


def changes_to_lead(numbers, option):
    """Return the options that lose a vote to this one until it leads alone, in order, or None."""
    left = list(numbers)
    losers = []
    while not leads(left, option):
        loser = strongest_other(left, option)
        if loser is None or left[loser] == 0:
            return None
        left[loser] -= 1
        left[option] += 1
        losers.append(loser)
    return losers


def margin(numbers):
    """Return the least number of changes by which another option leads alone, or None."""
    behind = [option for option in range(len(numbers)) if not leads(numbers, option)]
    found = [changes_to_lead(numbers, option) for option in behind]
    return min([len(losers) for losers in found if losers is not None], default=None)
