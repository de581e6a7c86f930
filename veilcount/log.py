"""Logs: the deeds of an election as lines."""

from veilcount.errors import LineError

# How many numbers a deed has at least and at most; None stands for any number.
LEAST = {"cast": 2, "withdraw": 1, "close": 0, "mix": 0}
MOST = {"cast": None, "withdraw": 1, "close": 0, "mix": None}

MOST_FIGURES = 60


def read_number(text):
    """Return the number of a text, or None."""
    return number_within(text, MOST_FIGURES)


def number_within(text, most):
    """Return the number of a text of at most so many figures, without leading zeros, or None."""
    if not text.isascii() or not text.isdigit() or len(text) > most:
        return None
    if text.startswith("0") and text != "0":
        return None
    return int(text)


def write_deed(deed):
    """Return the line of a deed."""
    word, numbers = deed
    return " ".join([word] + [str(number) for number in numbers])


def read_deed(line):
    """Return the deed of a line, or None."""
    word, *figures = line.split(" ")
    numbers = [read_number(text) for text in figures]
    if word not in LEAST or None in numbers or not _fits(word, len(numbers)):
        return None
    return word, numbers


def _fits(word, many):
    """Return whether a deed with this word may have so many numbers."""
    return many >= LEAST[word] and (MOST[word] is None or many <= MOST[word])


def write_log(deeds):
    """Return the text of deeds."""
    return "\n".join([write_deed(deed) for deed in deeds])


def read_log(text):
    """Return the deeds of a text; raise an error for the first line that is not a deed."""
    if text == "":
        return []
    deeds = []
    for place, line in enumerate(text.split("\n"), start=1):
        deed = read_deed(line)
        if deed is None:
            raise LineError(place)
        deeds.append(deed)
    return deeds
