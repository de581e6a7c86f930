"""Audits: the faults of the record of a run, and the mixers that they name."""

from veilcount.runs import last_table
from veilcount.shares import column, values_of
from veilcount.stages import held_shares, new_table, outsiders


def faults(record):
    """Return all faults of a record, those of the opening last."""
    found = []
    table = record.table
    for place, stage in enumerate(record.stages):
        for word, mixer, row in stage_faults(record.prime, record.mixers, table, stage):
            found.append((place, word, mixer, row))
        table = stage.table
    return found + _open_faults(record)


def stage_faults(prime, mixers, table, stage):
    """Return the faults of a stage on this table, check by check."""
    found = _gather_faults(prime, mixers, table, stage)
    found.extend(_hold_faults(prime, table, stage))
    found.extend(_order_faults(prime, stage))
    found.extend(_spread_faults(prime, stage))
    found.extend(_add_faults(prime, mixers, len(table), stage))
    return found


def blamed(record):
    """Return the mixers that the faults name, ascending."""
    return sorted({fault[2] for fault in faults(record) if fault[2] is not None})


def _gather_faults(prime, mixers, table, stage):
    """Return a fault for each share that the pieces of its mixer do not make."""
    others = outsiders(mixers, stage.holders)
    made = [values_of(prime, pieces) for pieces in stage.gathered]
    return _unlike(prime, "gather", others, made, [column(table, mixer) for mixer in others])


def _hold_faults(prime, table, stage):
    """Return a fault for each held share that is not what its holder has and gets."""
    due = held_shares(prime, table, stage.holders, stage.gathered)
    return _unlike(prime, "hold", stage.holders, _columns(stage.held, stage), _columns(due, stage))


def _order_faults(prime, stage):
    """Return a fault for each moved share that is not the held share in the old row."""
    found = []
    for place, holder in enumerate(stage.holders):
        for row, old in enumerate(stage.order):
            if not _is_moved(prime, stage, place, row, old):
                found.append(("order", holder, row))
    if found or sorted(values_of(prime, stage.held)) == sorted(values_of(prime, stage.ordered)):
        return found
    # All shares come from old rows and yet the values are others: the list is no order, and takes a row twice.
    return [("order", holder, row) for holder in stage.holders for row in _taken_twice(stage.order)]


def _is_moved(prime, stage, place, row, old):
    """Return whether a moved share is the held share in the old row, if there is such a row."""
    if old < 0 or old >= len(stage.held):
        return False
    return (stage.ordered[row][place] - stage.held[old][place]) % prime == 0


def _taken_twice(order):
    """Return the rows whose old row an earlier row has taken."""
    return [row for row, old in enumerate(order) if old in order[:row]]


def _spread_faults(prime, stage):
    """Return a fault for each moved share that the pieces of its holder do not make."""
    made = [values_of(prime, pieces) for pieces in stage.spread]
    return _unlike(prime, "spread", stage.holders, made, _columns(stage.ordered, stage))


def _add_faults(prime, mixers, rows, stage):
    """Return a fault for each new share that is not the sum of the pieces that its mixer gets."""
    due = new_table(prime, stage.spread, mixers, rows)
    names = list(range(mixers))
    return _unlike(prime, "add", names, [column(stage.table, mixer) for mixer in names],
                   [column(due, mixer) for mixer in names])


def _open_faults(record):
    """Return a fault for each opened value that is not that of its row."""
    values = values_of(record.prime, last_table(record))
    found = _unlike(record.prime, "open", [None], [record.opened], [values])
    return [(len(record.stages), word, mixer, row) for word, mixer, row in found]


def _columns(table, stage):
    """Return for each holder of a stage its shares, row by row."""
    return [column(table, place) for place in range(len(stage.holders))]


def _unlike(prime, word, names, given, due):
    """Return a fault for each mixer and each row where two numbers differ modulo the prime."""
    found = []
    for mixer, numbers, others in zip(names, given, due):
        for row, number in enumerate(numbers):
            if (number - others[row]) % prime != 0:
                found.append((word, mixer, row))
    return found
