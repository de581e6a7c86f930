"""Stories: the other votes with the same count, and coins with which a lot sees just the same of them."""

from veilcount.perms import factorial
from veilcount.swaps import swapped


def kinds_of(votes):
    """Return the different votes, ascending."""
    return sorted(set(votes))


def story_count(votes):
    """Return the number of stories."""
    many = factorial(len(votes))
    for kind in kinds_of(votes):
        many = many // factorial(votes.count(kind))
    return many


def rows_of(votes):
    """Return all stories, in the order of lists."""
    row = sorted(votes)
    rows = []
    while row is not None:
        rows.append(row)
        row = next_row(row)
    return rows


def next_row(votes):
    """Return the next story in the order of lists, or None behind the last one."""
    # The votes from a place on are in their last order if they descend; the vote before them must grow.
    place = len(votes) - 2
    while place >= 0 and votes[place] >= votes[place + 1]:
        place -= 1
    if place < 0:
        return None
    other = len(votes) - 1
    while votes[other] <= votes[place]:
        other -= 1
    row = exchanged(votes, place, other)
    return row[:place + 1] + sorted(row[place + 1:])


def exchanged(votes, one, other):
    """Return the votes with those at two places exchanged."""
    row = list(votes)
    row[one] = votes[other]
    row[other] = votes[one]
    return row


def stories(p, mixers, family, lot, votes, coins):
    """Return a tuple for each story: the story, and the other coins with which the lot has the same view of it."""
    return [(story, swapped(p, mixers, family, lot, votes, story, coins)) for story in rows_of(votes)]
