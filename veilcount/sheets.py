"""Sheets: elections as texts."""

from veilcount.copies import copied
from veilcount.errors import LineError
from veilcount.log import number_within

# Which words may stand behind a word; the first line stands behind no word.
NEXT_WORDS = {
    "": ("prime",),
    "prime": ("mixers",),
    "mixers": ("lot", "vote", "coins"),
    "lot": ("lot", "vote", "coins"),
    "vote": ("vote", "coins"),
    "coins": (),
}

MOST_FIGURES = 9


class Sheet:
    """An election: a prime, mixers, a family, votes, and numbers for the coins."""

    def __init__(self, prime, mixers, family, votes, numbers):
        self.prime = prime
        self.mixers = mixers
        self.family = copied(family)
        self.votes = copied(votes)
        self.numbers = copied(numbers)


def write_sheet(sheet):
    """Return the text of a sheet."""
    lines = [_line("prime", [sheet.prime]), _line("mixers", [sheet.mixers])]
    lines.extend([_line("lot", lot) for lot in sheet.family])
    lines.extend([_line("vote", [vote]) for vote in sheet.votes])
    lines.append(_line("coins", sheet.numbers))
    return "\n".join(lines)


def _line(word, numbers):
    """Return a line of a word and numbers."""
    return " ".join([word] + [str(number) for number in numbers])


def read_sheet(text):
    """Return the sheet of a text; raise an error for the first line that does not fit."""
    found = {word: [] for word in NEXT_WORDS}
    last = ""
    lines = text.split("\n")
    for place, line in enumerate(lines, start=1):
        word, *figures = line.split(" ")
        numbers = [read_number(part) for part in figures]
        if word not in NEXT_WORDS[last] or not _fits(word, numbers):
            raise LineError(place)
        found[word].append(numbers)
        last = word
    if last != "coins":
        raise LineError(len(lines) + 1)
    votes = [numbers[0] for numbers in found["vote"]]
    return Sheet(found["prime"][0][0], found["mixers"][0][0], found["lot"], votes, found["coins"][0])


def _fits(word, numbers):
    """Return whether these may be the numbers of a line with this word."""
    if None in numbers:
        return False
    if word == "lot":
        return numbers == sorted(set(numbers))
    return word == "coins" or len(numbers) == 1


def read_number(word):
    """Return the number of a word, or None."""
    return number_within(word, MOST_FIGURES)
