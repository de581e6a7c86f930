"""Audits: the faults of the record of a run, and the mixers that they name.

A record may have been tampered with in any way: a share, a piece or a row may
be missing or be one too many. None stands for what is missing here, and a check
of it does not hold.
"""

from veilcount.runs import last_table
from veilcount.shares import join, values_of
from veilcount.stages import outsiders


def faults(record):
    """Return all faults of a record, those of the opening last."""
    found = []
    table = record.table
    for place, stage in enumerate(record.stages):
        for word, mixer, row in stage_faults(record.prime, record.mixers, table, stage):
            found.append((place, word, mixer, row))
        table = stage.table
    return found + _open_faults(record)


def stage_faults(prime, mixers, table, stage):
    """Return the faults of a stage on this table, check by check."""
    held_by = _holders(mixers, stage)
    found = _gather_faults(prime, mixers, table, stage, held_by)
    found.extend(_hold_faults(prime, mixers, table, stage, held_by))
    found.extend(_order_faults(prime, len(table), stage, held_by))
    found.extend(_spread_faults(prime, mixers, len(table), stage, held_by))
    found.extend(_add_faults(prime, mixers, len(table), stage, held_by))
    return found


def blamed(record):
    """Return the mixers that the faults name, ascending."""
    return sorted({fault[2] for fault in faults(record) if fault[2] is not None})


def _holders(mixers, stage):
    """Return the holders of a stage, each once; what is no mixer holds nothing."""
    return [mixer for place, mixer in enumerate(stage.holders)
            if 0 <= mixer < mixers and mixer not in stage.holders[:place]]


def _gather_faults(prime, mixers, table, stage, held_by):
    """Return a fault for each share that the pieces of its mixer do not make."""
    others = outsiders(mixers, held_by)
    made = [_made(prime, _at(stage.gathered, seat), len(held_by)) for seat in range(len(others))]
    return _unlike(prime, "gather", len(table), others, made, [_column(table, mixer, mixers) for mixer in others])


def _hold_faults(prime, mixers, table, stage, held_by):
    """Return a fault for each held share that is not what its holder has and gets."""
    givers = stage.gathered[:mixers - len(held_by)]
    due = []
    for seat, holder in enumerate(held_by):
        own = _column(table, holder, mixers)
        gifts = _gifts(givers, seat, len(table))
        due.append([None if share is None else share + gift for share, gift in zip(own, gifts)])
    return _unlike(prime, "hold", len(table), held_by, _columns(stage.held, held_by), due)


def _order_faults(prime, rows, stage, held_by):
    """Return a fault for each moved share that is not the held share in the old row."""
    due = [[_at(shares, old) for old in stage.order] for shares in _columns(stage.held, held_by)]
    found = _unlike(prime, "order", rows, held_by, _columns(stage.ordered, held_by), due)
    if found or sorted(values_of(prime, stage.held)) == sorted(values_of(prime, stage.ordered)):
        return found
    # All shares come from old rows and yet the values are others: the list is no order, and takes a row twice.
    return [("order", holder, row) for holder in sorted(held_by) for row in _taken_twice(stage.order)]


def _taken_twice(order):
    """Return the rows whose old row an earlier row has taken."""
    return [row for row, old in enumerate(order) if old in order[:row]]


def _spread_faults(prime, mixers, rows, stage, held_by):
    """Return a fault for each moved share that the pieces of its holder do not make."""
    made = [_made(prime, _at(stage.spread, seat), mixers) for seat in range(len(held_by))]
    return _unlike(prime, "spread", rows, held_by, made, _columns(stage.ordered, held_by))


def _add_faults(prime, mixers, rows, stage, held_by):
    """Return a fault for each new share that is not the sum of the pieces that its mixer gets."""
    names = list(range(mixers))
    due = [_gifts(stage.spread[:len(held_by)], mixer, rows) for mixer in names]
    return _unlike(prime, "add", rows, names, [_column(stage.table, mixer, mixers) for mixer in names], due)


def _open_faults(record):
    """Return a fault for each opened value that is not that of its row."""
    table = last_table(record)
    # A row with more shares than mixers has no value: nobody has the share that is too many.
    values = [None if len(shares) > record.mixers else join(record.prime, shares) for shares in table]
    found = _unlike(record.prime, "open", len(table), [None], [record.opened], [values])
    return [(len(record.stages), word, mixer, row) for word, mixer, row in found]


def _at(things, place):
    """Return what stands at a place of a list, or None."""
    if things is None or place < 0 or place >= len(things):
        return None
    return things[place]


def _column(table, place, many):
    """Return the shares at a place of each row, for rows of many shares; a longer row is none."""
    return [None if len(shares) > many else _at(shares, place) for shares in table]


def _columns(table, held_by):
    """Return for each holder of a stage its shares, row by row."""
    return [_column(table, seat, len(held_by)) for seat in range(len(held_by))]


def _made(prime, pieces, many):
    """Return for each row what its pieces make, if there is one for each of many receivers."""
    if pieces is None:
        return []
    return [join(prime, row) if len(row) == many else None for row in pieces]


def _gifts(givers, place, rows):
    """Return for each row the sum of all pieces that the receiver at a place gets."""
    sums = []
    for row in range(rows):
        gifts = [_at(_at(pieces, row), place) for pieces in givers]
        sums.append(sum([gift for gift in gifts if gift is not None]))
    return sums


def _unlike(prime, word, rows, names, given, due):
    """Return a fault for each mixer and row where two numbers differ, where one is missing, or where no row is."""
    found = []
    for mixer, numbers, others in zip(names, given, due):
        for row in range(max(rows, len(numbers), len(others))):
            number, other = _at(numbers, row), _at(others, row)
            if row >= rows or number is None or other is None or (number - other) % prime != 0:
                found.append((word, mixer, row))
    return sorted(found)
