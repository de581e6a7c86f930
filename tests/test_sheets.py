"""Points 3, 32 and 33: sheets; points 2, 14, 17, 26, 31 and 32 together."""

import unittest
from copy import deepcopy

from draws import all_lots, numbers_from
from veilcount.audit import faults
from veilcount.coins import coins_of, flat, size
from veilcount.errors import LineError
from veilcount.lots import is_inside
from veilcount.runs import run
from veilcount.sheets import Sheet, read_number, read_sheet, write_sheet
from veilcount.swaps import swapped
from veilcount.tallies import counts
from veilcount.views import view

SHEET = Sheet(7, 3, [[0], [], [1, 2]], [3, 0], [5, 123456789, 0])
TEXT = "prime 7\nmixers 3\nlot 0\nlot\nlot 1 2\nvote 3\nvote 0\ncoins 5 123456789 0"
LINES = TEXT.split("\n")


def fields(sheet):
    return sheet.prime, sheet.mixers, sheet.family, sheet.votes, sheet.numbers


class WritingTest(unittest.TestCase):

    def test_write_sheet(self):
        self.assertEqual(write_sheet(SHEET), TEXT)

    def test_the_least_sheet(self):
        self.assertEqual(write_sheet(Sheet(2, 1, [], [], [])), "prime 2\nmixers 1\ncoins")

    def test_the_empty_lot_alone(self):
        self.assertEqual(write_sheet(Sheet(2, 1, [[]], [], [4])), "prime 2\nmixers 1\nlot\ncoins 4")

    def test_no_lots_and_no_coins(self):
        self.assertEqual(write_sheet(Sheet(2, 1, [], [1, 0], [])), "prime 2\nmixers 1\nvote 1\nvote 0\ncoins")

    def test_the_fields_are_copies(self):
        given = [[0], [1]], [3, 0], [5, 6]
        before = deepcopy(given)
        sheet = Sheet(7, 3, *given)
        self.assertEqual(fields(sheet), (7, 3) + before)
        for found in (sheet.family, sheet.family[0], sheet.votes, sheet.numbers):
            found.append(9)
        self.assertEqual(given, before)
        for found in (given[0][1], given[0], given[1], given[2]):
            found.append(8)
        self.assertEqual(fields(sheet), (7, 3, [[0, 9], [1], 9], [3, 0, 9], [5, 6, 9]))

    def test_the_sheet_stays(self):
        before = deepcopy(fields(SHEET))
        write_sheet(SHEET)
        self.assertEqual(fields(SHEET), before)


class ReadingTest(unittest.TestCase):

    def test_read_sheet(self):
        found = read_sheet(TEXT)
        self.assertIsInstance(found, Sheet)
        self.assertEqual(fields(found), fields(SHEET))

    def test_written_and_read_back(self):
        for sheet in (SHEET, Sheet(2, 1, [], [], []), Sheet(2, 1, [[]], [], [1]), Sheet(5, 2, [[], [0]], [], []),
                      Sheet(5, 2, [], [4, 0, 4], []), Sheet(999983, 12, [[0, 10, 11]], [999982], [999999999] * 30)):
            found = read_sheet(write_sheet(sheet))
            self.assertEqual(fields(found), fields(sheet))
            self.assertEqual(write_sheet(found), write_sheet(sheet))

    def test_the_numbers_are_not_checked_further(self):
        text = "prime 4\nmixers 0\nlot 7 8\nlot 0 1 2 3\nvote 999\ncoins 1"
        self.assertEqual(fields(read_sheet(text)), (4, 0, [[7, 8], [0, 1, 2, 3]], [999], [1]))

    def test_each_line_is_read_anew(self):
        found = read_sheet(TEXT)
        for part in (found.family[0], found.family, found.votes, found.numbers):
            part.append(9)
        self.assertEqual(fields(read_sheet(TEXT)), fields(SHEET))


class NumbersTest(unittest.TestCase):

    def test_numbers(self):
        for word, number in (("0", 0), ("7", 7), ("10", 10), ("100", 100), ("999999999", 999999999),
                             ("100000000", 100000000)):
            self.assertEqual(read_number(word), number)

    def test_words_that_are_no_numbers(self):
        for word in ("", "00", "01", "000000000", "0123456789", "1000000000", "9999999999", "+1", "-1", "-0", "-", "+",
                     " 1", "1 ", " ", "1 2", "1_0", "1.0", "1.", "1e3", "0x1", "one", "prime", "a", "1a", "\n", "1\n",
                     "1\r", "\t1", "\u0663", "1\u0663", "\u00b2", "\u2460", "\uff11", "1" * 5000):
            self.assertIsNone(read_number(word), repr(word))

    def test_the_same_in_every_line(self):
        for word in ("01", "1000000000", "+1", "-1", "", "x", "\u0663", "\u00b2", "1\r", "1_0"):
            for at in (0, 1, 2, 4, 6, 7):
                lines = list(LINES)
                lines[at] = lines[at].split(" ")[0] + " " + word
                with self.assertRaises(LineError) as caught:
                    read_sheet("\n".join(lines))
                self.assertEqual(caught.exception.line, at + 1)
        for word, number in (("0", 0), ("999999999", 999999999)):
            for at in (0, 1, 2, 4, 6, 7):
                lines = list(LINES)
                lines[at] = lines[at].split(" ")[0] + " " + word
                self.assertIn(str(number), write_sheet(read_sheet("\n".join(lines))).split("\n")[at])


class FaultsTest(unittest.TestCase):
    """Point 33: the first line that does not fit."""

    def assert_fault(self, lines, line):
        with self.assertRaises(LineError) as caught:
            read_sheet("\n".join(lines))
        self.assertEqual(caught.exception.line, line)

    def test_every_line_may_be_the_fault(self):
        for at in range(len(LINES)):
            for wrong in ("", " ", "x", "x 1", "Prime 7", LINES[at] + " ", " " + LINES[at], LINES[at] + " x",
                          LINES[at] + "\r", LINES[at].upper(), LINES[at].replace(" ", "  ") + " ", "7"):
                self.assert_fault(LINES[:at] + [wrong] + LINES[at + 1:], at + 1)

    def test_two_spaces_between(self):
        for at in (0, 1, 2, 4, 5, 7):
            self.assert_fault(LINES[:at] + [LINES[at].replace(" ", "  ", 1)] + LINES[at + 1:], at + 1)
            self.assert_fault(LINES[:at] + [LINES[at].replace(" ", "\t", 1)] + LINES[at + 1:], at + 1)
        self.assert_fault(LINES[:4] + ["lot 1  2"] + LINES[5:], 5)

    def test_a_space_behind_a_word_without_numbers(self):
        self.assert_fault(["prime 2", "mixers 1", "lot ", "coins"], 3)
        self.assert_fault(["prime 2", "mixers 1", "coins "], 3)

    def test_an_empty_line(self):
        for at in range(len(LINES) + 1):
            self.assert_fault(LINES[:at] + [""] + LINES[at:], at + 1)

    def test_a_line_feed_at_the_end(self):
        self.assert_fault(LINES + [""], 9)
        self.assert_fault([""] + LINES, 1)

    def test_no_other_ends_of_lines(self):
        self.assert_fault(["prime 2\rmixers 1\rcoins"], 1)
        self.assert_fault(["prime 2\vmixers 1\x0ccoins"], 1)
        self.assert_fault(["prime 2\u2028mixers 1", "coins"], 1)

    def test_words_out_of_order(self):
        self.assert_fault(["mixers 3", "prime 7", "coins"], 1)
        self.assert_fault(["lot 0", "prime 7", "mixers 3", "coins"], 1)
        self.assert_fault(["coins", "prime 7", "mixers 3"], 1)
        self.assert_fault(["prime 7", "lot 0", "mixers 3", "coins"], 2)
        self.assert_fault(["prime 7", "vote 0", "mixers 3", "coins"], 2)
        self.assert_fault(["prime 7", "coins"], 2)
        self.assert_fault(["prime 7", "mixers 3", "vote 0", "lot 0", "coins"], 4)
        self.assert_fault(["prime 7", "mixers 3", "coins", "lot 0"], 4)
        self.assert_fault(["prime 7", "mixers 3", "coins", "vote 0"], 4)

    def test_a_second_line_of_its_word(self):
        self.assert_fault(["prime 7", "prime 7", "mixers 3", "coins"], 2)
        self.assert_fault(["prime 7", "mixers 3", "mixers 3", "coins"], 3)
        self.assert_fault(["prime 7", "mixers 3", "lot", "prime 7", "coins"], 4)
        self.assert_fault(["prime 7", "mixers 3", "vote 1", "mixers 3", "coins"], 4)
        self.assert_fault(["prime 7", "mixers 3", "coins", "coins"], 4)

    def test_too_few_and_too_many_numbers(self):
        for at in (0, 1, 5, 6):
            word = LINES[at].split(" ")[0]
            for wrong in (word, word + " 1 2", word + " 1 1", word + " 1 2 3"):
                self.assert_fault(LINES[:at] + [wrong] + LINES[at + 1:], at + 1)

    def test_lots_that_are_not_ascending(self):
        for lot in ("1 0", "0 0", "0 2 1", "1 2 2", "0 1 2 1", "10 9"):
            self.assert_fault(["prime 7", "mixers 3", "lot 0", "lot " + lot, "coins"], 4)
        # By their numbers and not by their figures.
        self.assertEqual(read_sheet("prime 7\nmixers 11\nlot 2 10\ncoins").family, [[2, 10]])

    def test_the_lines_end_before_the_line_of_the_coins(self):
        for many in range(1, len(LINES)):
            self.assert_fault(LINES[:many], many + 1)

    def test_the_empty_string_is_one_empty_line(self):
        self.assert_fault([""], 1)
        self.assert_fault(["", ""], 1)

    def test_the_first_of_two_faults(self):
        for one in range(len(LINES)):
            for other in range(one + 1, len(LINES)):
                lines = list(LINES)
                lines[one], lines[other] = "coins x", "prime 0 0"
                self.assert_fault(lines, one + 1)
        # A line that does not fit is told, and not the end that comes too early.
        self.assert_fault(["prime 7", "mixers x"], 2)


class ElectionTest(unittest.TestCase):
    """An election that is read from a sheet, run and opened."""

    def elections(self):
        for seed, (prime, mixers, family, votes) in enumerate([
                (2, 1, [[]], [1, 0, 1]), (7, 3, [[0], [1], [2]], [3, 6, 3, 0]), (5, 4, [[0, 1], [1, 2]], [4, 4]),
                (5, 2, [], [1, 2]), (5, 2, [[0]], [])]):
            numbers = [abs(number) for number in numbers_from(seed, size(mixers, family, len(votes)))]
            yield read_sheet(write_sheet(Sheet(prime, mixers, family, votes, numbers)))

    def coins(self, sheet):
        return coins_of(sheet.numbers, prime=sheet.prime, mixers=sheet.mixers, family=sheet.family,
                        rows=len(sheet.votes))

    def test_the_counts_are_those_of_the_votes(self):
        for sheet in self.elections():
            record = run(sheet.prime, sheet.mixers, sheet.family, sheet.votes, self.coins(sheet))
            self.assertEqual(counts(record.opened, sheet.prime), counts(sheet.votes, sheet.prime))
            self.assertEqual(sorted(record.opened), sorted(sheet.votes))

    def test_its_record_has_no_faults(self):
        for sheet in self.elections():
            record = run(sheet.prime, sheet.mixers, sheet.family, sheet.votes, self.coins(sheet))
            self.assertEqual(faults(record), [])

    def test_no_lot_can_tell_it_from_another_one(self):
        for sheet in self.elections():
            coins = self.coins(sheet)
            record = run(sheet.prime, sheet.mixers, sheet.family, sheet.votes, coins)
            for lot in all_lots(sheet.mixers):
                if is_inside(lot, sheet.family):
                    others = sheet.votes[::-1]
                    other_coins = swapped(sheet.prime, sheet.mixers, sheet.family, lot, sheet.votes, others, coins)
                    text = write_sheet(Sheet(sheet.prime, sheet.mixers, sheet.family, others, flat(other_coins)))
                    again = read_sheet(text)
                    found = run(again.prime, again.mixers, again.family, again.votes, self.coins(again))
                    self.assertEqual(view(found, lot), view(record, lot))


if __name__ == "__main__":
    unittest.main()
