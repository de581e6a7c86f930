"""Points 3 and 51: the lines of deeds."""

import unittest
from itertools import product

from veilcount.errors import LineError
from veilcount.log import read_deed, read_log, read_number, write_deed, write_log

SIXTY = "9" * 60

# Deeds and their lines.
DEEDS = [
    (("cast", [0, 0]), "cast 0 0"),
    (("cast", [12, 2, 0, 1]), "cast 12 2 0 1"),
    (("withdraw", [0]), "withdraw 0"),
    (("withdraw", [39]), "withdraw 39"),
    (("close", []), "close"),
    (("mix", []), "mix"),
    (("mix", [0]), "mix 0"),
    (("mix", [5, 10 ** 60 - 1, 0, 10]), "mix 5 " + SIXTY + " 0 10"),
]

# Lines that are no deeds.
NO_DEEDS = [
    # Other words, and words that are written otherwise.
    "", " ", "vote 1", "Cast 0 0", "CLOSE", "clos", "closed", "open", "cast,0,0", "1 2", "0", "mixx 1", "\tclose",
    # Too few numbers, and too many.
    "cast", "cast 0", "withdraw", "withdraw 0 1", "withdraw 0 0", "close 0", "close 0 0",
    # Spaces too many in front, between and behind.
    " close", "close ", " cast 0 0", "cast  0 0", "cast 0  0", "cast 0 0 ", "mix ", "mix  1", "mix 1 ", "withdraw 0 ",
    # What is no number.
    "cast 0 x", "cast x 0", "cast 0 -1", "cast 0 +1", "withdraw 00", "withdraw 01", "cast 0 1.0", "mix 1,2",
    "mix 1_000", "mix 0x1", "mix 1e3", "mix 1\t2", "mix \u00b2", "mix \u0663", "mix \uff11", "mix 1" + SIXTY,
    "mix 0" + SIXTY, "mix 1\r", "close\r", "mix -0",
]


class NumbersTest(unittest.TestCase):

    def test_numbers(self):
        for number in list(range(1000)) + [10 ** 59, 10 ** 60 - 1, 123456789012345678901234567890]:
            self.assertEqual(read_number(str(number)), number)

    def test_sixty_figures_and_sixty_one(self):
        self.assertEqual(read_number(SIXTY), 10 ** 60 - 1)
        self.assertEqual(read_number("1" + "0" * 59), 10 ** 59)
        self.assertIsNone(read_number("1" + "0" * 60))
        self.assertIsNone(read_number("1" * 61))
        self.assertIsNone(read_number("1" * 10000))

    def test_leading_zeros(self):
        self.assertEqual(read_number("0"), 0)
        for text in ("00", "01", "007", "0" * 60, "0" + SIXTY[1:]):
            self.assertIsNone(read_number(text))

    def test_what_is_no_number(self):
        for text in ("", " ", "-1", "+1", "-0", "1 ", " 1", "1\n", "\n", "1.0", "1e3", "0x1", "1_0", "x", "a1", "1a", "1,2",
                     "\u0661", "\u00b2", "\uff11", "\u0be7", "None"):
            self.assertIsNone(read_number(text), text)


class DeedsTest(unittest.TestCase):

    def test_deeds_and_their_lines(self):
        for deed, line in DEEDS:
            self.assertEqual(write_deed(deed), line)
            self.assertEqual(read_deed(line), deed)
            self.assertIsInstance(read_deed(line), tuple)
            self.assertIsInstance(read_deed(line)[1], list)

    def test_how_many_numbers_each_word_has(self):
        least = {"cast": 2, "withdraw": 1, "close": 0, "mix": 0}
        most = {"cast": 100, "withdraw": 1, "close": 0, "mix": 100}
        for word, many in product(least, (0, 1, 2, 3, 7, 100)):
            line = word + " 4" * many
            fits = least[word] <= many <= most[word]
            self.assertEqual(read_deed(line), (word, [4] * many) if fits else None)

    def test_lines_that_are_no_deeds(self):
        for line in NO_DEEDS:
            self.assertIsNone(read_deed(line), line)


class LogsTest(unittest.TestCase):

    def assert_fault(self, line, text):
        with self.assertRaises(LineError) as caught:
            read_log(text)
        self.assertEqual(caught.exception.line, line)

    def test_no_deeds(self):
        self.assertEqual(write_log([]), "")
        self.assertEqual(read_log(""), [])

    def test_one_line_feed_is_two_empty_lines(self):
        self.assert_fault(1, "\n")
        self.assert_fault(1, "\n\n")

    def test_a_log_by_hand(self):
        deeds = [("cast", [0, 1, 0]), ("withdraw", [0]), ("cast", [0, 0, 1]), ("close", []), ("mix", [4, 0])]
        text = "cast 0 1 0\nwithdraw 0\ncast 0 0 1\nclose\nmix 4 0"
        self.assertEqual(write_log(deeds), text)
        self.assertEqual(read_log(text), deeds)

    def test_what_is_written_is_read_back(self):
        deeds = [deed for deed, _ in DEEDS]
        for many in range(4):
            for chosen in product(deeds, repeat=many):
                self.assertEqual(read_log(write_log(list(chosen))), list(chosen))

    def test_deeds_in_any_order(self):
        # Whether an election allows them is not the question here.
        self.assertEqual(read_log("mix\nclose\nclose"), [("mix", []), ("close", []), ("close", [])])

    def test_the_first_fault_is_told(self):
        self.assert_fault(1, "x")
        self.assert_fault(1, "x\ny")
        self.assert_fault(2, "close\nx\ny")
        self.assert_fault(3, "close\nclose\nclosed\nclose\n")
        self.assert_fault(1, " ")

    def test_line_feeds_at_the_ends(self):
        self.assert_fault(2, "close\n")
        self.assert_fault(1, "\nclose")
        self.assert_fault(2, "close\n\nclose")

    def test_other_line_ends(self):
        # Only line feeds end lines.
        self.assert_fault(1, "close\r\nclose")
        self.assert_fault(1, "close\rclose")
        self.assert_fault(1, "close\x0bclose")
        self.assert_fault(1, "close\u2028close")

    def test_each_line_that_is_no_deed(self):
        for line in NO_DEEDS:
            self.assert_fault(3, "close\nmix\n" + line + "\nclose")
            if line:
                self.assert_fault(1, line)


class CopiesTest(unittest.TestCase):
    """Point 3."""

    def test_deeds_stay(self):
        deeds = [("cast", [0, 1, 0]), ("mix", [])]
        write_log(deeds)
        write_deed(deeds[0])
        self.assertEqual(deeds, [("cast", [0, 1, 0]), ("mix", [])])

    def test_deeds_that_are_read_are_new(self):
        read_log("mix 1\nclose")[0][1].append(9)
        self.assertEqual(read_log("mix 1\nclose"), [("mix", [1]), ("close", [])])
        read_log("").append(9)
        self.assertEqual(read_log(""), [])


if __name__ == "__main__":
    unittest.main()
