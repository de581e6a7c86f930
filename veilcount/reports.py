"""Reports: the board as a text, and the receipts that are not on it."""

from veilcount.copies import copied
from veilcount.errors import LineError
from veilcount.field import total
from veilcount.log import read_number


def write_row(row):
    """Return the shares of a row with spaces between."""
    return " ".join([str(share) for share in row])


def write_board(prime, table):
    """Return the text of a board."""
    lines = [f"prime {prime}"]
    lines.extend([f"{write_row(row)} : {total(prime, row)}" for row in table])
    return "\n".join(lines)


def read_board(mixers, text):
    """Return the prime and the table of a board; raise an error for the first line that does not fit."""
    first, *lines = text.split("\n")
    prime = _prime_of(first)
    if prime is None:
        raise LineError(1)
    table = []
    for place, line in enumerate(lines, start=2):
        row = _row_of(prime, mixers, line)
        if row is None:
            raise LineError(place)
        table.append(row)
    return prime, table


def _prime_of(line):
    """Return the prime of the first line of a board, or None."""
    word, _, figures = line.partition(" ")
    prime = read_number(figures)
    if word != "prime" or prime is None or prime < 2:
        return None
    return prime


def _row_of(prime, mixers, line):
    """Return the shares of a line of a board, or None."""
    words = line.split(" ")
    if len(words) != mixers + 2 or words[mixers] != ":":
        return None
    row = [read_number(word) for word in words[:mixers]]
    if not all([share is not None and share < prime for share in row]):
        return None
    if read_number(words[mixers + 1]) != total(prime, row):
        return None
    return row


def missing(opened, receipts):
    """Return the receipts that are not among the opened pairs; each of these answers one receipt."""
    left = [tuple(pair) for pair in opened]
    gone = []
    for receipt in receipts:
        pair = tuple(receipt)
        if pair in left:
            left.remove(pair)
        else:
            gone.append(copied(receipt))
    return gone
