"""Plans: families of all lots of a size, the stages that guard a lot, and how many numbers are sent."""

from veilcount.errors import BadLots
from veilcount.lots import contains, holders, lots_of


def family_of(mixers, together):
    """Return the family of all lots of a size."""
    if 2 * together >= mixers:
        raise BadLots(None, None)
    return lots_of(mixers, together)


def guards(family, lot):
    """Return the stages of which no holder is in a lot, ascending."""
    return [place for place, other in enumerate(family) if contains(other, lot)]


def sent_in_stage(mixers, lot, rows):
    """Return how many numbers are sent in a stage."""
    many = len(holders(lot, mixers))
    gathering = (mixers - many) * many * rows
    spreading = many * (mixers - 1) * rows
    return gathering + spreading


def sent_in_run(mixers, family, rows):
    """Return how many numbers are sent in a run."""
    # Each voter sends one to each mixer, and in the end each mixer sends one for each row to the board.
    voting = opening = rows * mixers
    return voting + sum([sent_in_stage(mixers, lot, rows) for lot in family]) + opening
