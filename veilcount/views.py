"""What the members of a lot see of a run."""

from veilcount.field import total
from veilcount.runs import last_table
from veilcount.shares import column
from veilcount.stages import outsiders


def view(record, lot):
    """Return all that a lot sees of a run, as tuples of tuples."""
    stages = tuple([stage_view(stage, record.mixers, lot) for stage in record.stages])
    return _columns(record.table, lot), stages, _frozen(last_table(record))


def stage_view(stage, mixers, lot):
    """Return what the members of a lot see of a stage."""
    others = outsiders(mixers, stage.holders)
    givers = [place for place, mixer in enumerate(others) if mixer in lot]
    keepers = [place for place, holder in enumerate(stage.holders) if holder in lot]
    return (tuple([_frozen(stage.gathered[place]) for place in givers]),
            tuple([_gifts_to(place, stage.gathered) for place in keepers]),
            _ordering(stage, keepers),
            tuple([_frozen(stage.spread[place]) for place in keepers]),
            tuple([_gifts_to(mixer, stage.spread) for mixer in lot]))


def _ordering(stage, keepers):
    """Return what the holders at these places see of the ordering."""
    order = tuple(stage.order) if keepers else None
    return _columns(stage.held, keepers), order, _columns(stage.ordered, keepers)


def _gifts_to(place, pieces):
    """Return for each mixer that splits its shares the pieces for the receiver at a place, row by row."""
    return tuple([tuple(column(rows, place)) for rows in pieces])


def _columns(table, places):
    """Return for each of the places the shares there, row by row."""
    return tuple([tuple(column(table, place)) for place in places])


def _frozen(rows):
    """Return a tuple of the rows, each a tuple."""
    return tuple([tuple(row) for row in rows])


def known_votes(record, one, other):
    """Return the values of the first table, from the shares of two lots that cover all mixers."""
    # A mixer may be in both lots; its share counts once.
    known = [mixer for mixer in range(record.mixers) if mixer in one or mixer in other]
    return [total(record.prime, [row[mixer] for mixer in known]) for row in record.table]
