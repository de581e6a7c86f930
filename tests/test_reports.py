"""Points 3, 36 and 53: boards and receipts."""

import unittest
from copy import deepcopy
from itertools import permutations, product

from draws import drawn, numbers_from
from veilcount.cheats import run_changed
from veilcount.coins import coins_of, size
from veilcount.errors import LineError
from veilcount.reports import missing, read_board, write_board, write_row
from veilcount.runs import last_table, run
from veilcount.tags import opened_rows, run_tagged, triple

# Primes, numbers of mixers, tables and their texts.
BOARDS = [
    (7, 3, [[5, 6, 6]], "prime 7\n5 6 6 : 3"),
    (7, 3, [[5, 6, 6], [0, 0, 0], [6, 1, 0]], "prime 7\n5 6 6 : 3\n0 0 0 : 0\n6 1 0 : 0"),
    (7, 1, [[4], [0]], "prime 7\n4 : 4\n0 : 0"),
    (7, 3, [], "prime 7"),
    (2, 2, [[1, 1], [0, 1]], "prime 2\n1 1 : 0\n0 1 : 1"),
    (999983, 2, [[999982, 999982]], "prime 999983\n999982 999982 : 999981"),
    # Whether it is a prime is not checked.
    (4, 2, [[3, 3]], "prime 4\n3 3 : 2"),
    (1000, 1, [[999]], "prime 1000\n999 : 999"),
    (10 ** 60 - 1, 2, [[10 ** 60 - 2, 10]], "prime " + "9" * 60 + "\n" + "9" * 59 + "8 10 : 9"),
]


class WritingTest(unittest.TestCase):

    def test_rows(self):
        self.assertEqual(write_row([5, 6, 6]), "5 6 6")
        self.assertEqual(write_row([0]), "0")
        self.assertEqual(write_row([10, 999982]), "10 999982")

    def test_boards(self):
        for prime, _, table, text in BOARDS:
            self.assertEqual(write_board(prime, table), text)

    def test_the_board_of_a_run(self):
        coins = drawn(7, 3, [[0], [1]], [3, 6, 3])
        record = run(7, 3, [[0], [1]], [3, 6, 3], coins)
        lines = write_board(7, last_table(record)).split("\n")
        self.assertEqual([int(line.split(" : ")[1]) for line in lines[1:]], record.opened)


class ReadingTest(unittest.TestCase):

    def assert_fault(self, line, text, mixers=3):
        with self.assertRaises(LineError) as caught:
            read_board(mixers, text)
        self.assertEqual(caught.exception.line, line)

    def test_boards(self):
        for prime, mixers, table, text in BOARDS:
            self.assertEqual(read_board(mixers, text), (prime, table))
            self.assertIsInstance(read_board(mixers, text), tuple)

    def test_what_is_written_is_read_back(self):
        for prime, mixers in product((2, 3, 7, 101), (1, 2, 5)):
            for rows in range(4):
                numbers = [number % prime for number in numbers_from(prime + rows, mixers * rows)]
                table = [numbers[row * mixers:(row + 1) * mixers] for row in range(rows)]
                self.assertEqual(read_board(mixers, write_board(prime, table)), (prime, table))

    def test_an_empty_string(self):
        self.assert_fault(1, "")

    def test_the_line_of_the_prime(self):
        for line in ("prime", "prime ", "prime 7 ", " prime 7", "prime  7", "prime 7 3", "Prime 7", "primes 7", "7",
                     "prime x", "prime -7", "prime +7", "prime 07", "prime 7.0", "prime7", "prime:7", "prime\t7",
                     "5 6 6 : 3", "prime \u0667", "prime 1" + "0" * 60, "mixers 7", "prime 7\r", " 7", "prime 7:"):
            self.assert_fault(1, line)
            self.assert_fault(1, line + "\n5 6 6 : 3")

    def test_a_prime_of_one_and_of_nought(self):
        self.assert_fault(1, "prime 0")
        self.assert_fault(1, "prime 1")
        self.assert_fault(1, "prime 1\n0 0 0 : 0")
        self.assertEqual(read_board(3, "prime 2\n0 0 0 : 0"), (2, [[0, 0, 0]]))

    def test_another_number_of_shares(self):
        self.assert_fault(2, "prime 7\n5 6 : 4")
        self.assert_fault(2, "prime 7\n5 6 6 0 : 3")
        self.assert_fault(2, "prime 7\n : 0")
        self.assert_fault(2, "prime 7\n: 0")
        self.assert_fault(2, "prime 7\n5 6 6 : 3", mixers=2)
        self.assert_fault(2, "prime 7\n5 6 6 : 3", mixers=4)
        self.assert_fault(2, "prime 7\n5 : 5", mixers=2)

    def test_a_share_that_is_not_below_the_prime(self):
        self.assert_fault(2, "prime 7\n7 0 0 : 0")
        self.assert_fault(2, "prime 7\n0 0 7 : 0")
        self.assert_fault(2, "prime 7\n0 8 0 : 1")
        self.assert_fault(2, "prime 7\n0 " + "9" * 60 + " 0 : 0")
        self.assertEqual(read_board(3, "prime 7\n6 0 0 : 6"), (7, [[6, 0, 0]]))

    def test_a_value_that_is_not_the_sum(self):
        self.assert_fault(2, "prime 7\n5 6 6 : 4")
        self.assert_fault(2, "prime 7\n5 6 6 : 2")
        # The value is a value, so it is the sum modulo the prime.
        self.assert_fault(2, "prime 7\n5 6 6 : 17")
        self.assert_fault(2, "prime 7\n5 6 6 : 10")
        self.assert_fault(2, "prime 7\n0 0 0 : 7")

    def test_lines_that_are_of_another_form(self):
        for line in ("", " ", "5 6 6", "5 6 6 :", "5 6 6 : ", "5 6 6 3", "5 6 6 :3", "5 6 6: 3", "5 6 6:3", "5 6 6  : 3",
                     "5 6 6 :  3", "5  6 6 : 3", " 5 6 6 : 3", "5 6 6 : 3 ", "5 6 6 : 3 :", "5 6 6 : : 3", "5 6 : 6 3",
                     ": 5 6 6 3", "5 6 6 ; 3", "5,6,6 : 3", "5 6 x : 3", "5 6 6 : x", "5 6 -1 : 3", "5 6 6 : +3",
                     "5 6 06 : 3", "5 6 6 : 03", "05 6 6 : 3", "5 6 6 : 3\r", "5 6 \u0666 : 3", "5 6 6 : \u0663",
                     "prime 7", "5 6 6 = 3", "5\t6 6 : 3", "5 6 6 : " + "0" * 61):
            self.assert_fault(2, "prime 7\n" + line)
            self.assert_fault(3, "prime 7\n0 0 0 : 0\n" + line + "\n0 0 0 : 0")

    def test_leading_zeros(self):
        self.assert_fault(2, "prime 7\n00 0 0 : 0")
        self.assert_fault(2, "prime 7\n0 0 0 : 00")
        self.assertEqual(read_board(3, "prime 7\n0 0 0 : 0"), (7, [[0, 0, 0]]))

    def test_line_feeds_at_the_ends(self):
        self.assert_fault(2, "prime 7\n")
        self.assert_fault(3, "prime 7\n5 6 6 : 3\n")
        self.assert_fault(3, "prime 7\n5 6 6 : 3\n\n")
        self.assert_fault(1, "\nprime 7")
        self.assert_fault(2, "prime 7\n\n5 6 6 : 3")

    def test_the_first_of_two_faults(self):
        self.assert_fault(1, "prime 1\n5 6 6 : 4")
        self.assert_fault(2, "prime 7\n5 6 6 : 4\n5 6 : 4")
        self.assert_fault(3, "prime 7\n5 6 6 : 3\n5 6 : 4\n5 6 6 : 4")
        self.assert_fault(4, "prime 7\n5 6 6 : 3\n5 6 6 : 3\n7 0 0 : 0\n")


class ReceiptsTest(unittest.TestCase):
    """Point 36."""

    def test_none_some_and_all_are_there(self):
        opened = [(3, 1), (5, 2), (0, 6)]
        self.assertEqual(missing(opened, [(5, 2), (0, 6)]), [])
        self.assertEqual(missing(opened, [(0, 6), (3, 1), (5, 2)]), [])
        self.assertEqual(missing(opened, [(0, 6), (3, 2), (5, 2)]), [(3, 2)])
        self.assertEqual(missing(opened, [(1, 3), (2, 5), (6, 0)]), [(1, 3), (2, 5), (6, 0)])
        self.assertEqual(missing(opened, []), [])
        self.assertEqual(missing([], [(3, 1)]), [(3, 1)])
        self.assertEqual(missing([], []), [])

    def test_the_vote_and_the_key_count(self):
        self.assertEqual(missing([(3, 1)], [(3, 2)]), [(3, 2)])
        self.assertEqual(missing([(3, 1)], [(2, 1)]), [(2, 1)])

    def test_of_equal_ones_as_many_are_found_as_there_are(self):
        self.assertEqual(missing([(3, 1)], [(3, 1), (3, 1)]), [(3, 1)])
        self.assertEqual(missing([(3, 1), (3, 1)], [(3, 1), (3, 1)]), [])
        self.assertEqual(missing([(3, 1), (0, 0), (3, 1)], [(3, 1)] * 5), [(3, 1)] * 3)
        self.assertEqual(missing([(3, 1), (3, 1), (3, 1)], [(3, 1), (3, 1)]), [])

    def test_the_order_of_the_missing_ones(self):
        receipts = [(6, 6), (0, 1), (3, 1), (0, 0), (2, 2)]
        self.assertEqual(missing([(3, 1)], receipts), [(6, 6), (0, 1), (0, 0), (2, 2)])
        self.assertEqual(missing([(0, 0), (6, 6)], receipts), [(0, 1), (3, 1), (2, 2)])
        # The first of equal ones is found, so the later one is missing.
        self.assertEqual(missing([(3, 1)], [(3, 1), (2, 2), (3, 1)]), [(2, 2), (3, 1)])

    def test_all_rows_of_few_pairs(self):
        pairs = [(0, 0), (0, 1), (1, 0)]
        for opened in product(pairs, repeat=3):
            for receipts in product(pairs, repeat=3):
                found = missing(list(opened), list(receipts))
                for pair in pairs:
                    due = max(0, receipts.count(pair) - opened.count(pair))
                    self.assertEqual(found.count(pair), due)
                self.assertEqual(len(found), sum(found.count(pair) for pair in pairs))

    def test_the_fact(self):
        # Nobody's receipt is missing, all are different, and there are as many rows as voters: the votes are the same.
        pairs = list(product(range(3), repeat=2))
        for receipts in permutations(pairs, 3):
            for opened in product(pairs, repeat=3):
                if not missing(list(opened), list(receipts)):
                    self.assertEqual(sorted(vote for vote, _ in opened), sorted(vote for vote, _ in receipts))

    def test_the_fact_in_runs_with_changes(self):
        family, votes, keys = [[0], [1]], [3, 5, 0], [1, 2, 6]
        rows = [triple(7, vote, key) for vote, key in zip(votes, keys)]
        coins = [drawn(7, 3, family, votes, seed) for seed in range(3)]
        receipts = [(vote, key) for vote, key, _ in rows]
        honest = [(vote, key) for vote, key, _ in opened_rows(run_tagged(7, 3, family, rows, coins))]
        self.assertEqual(missing(honest, receipts), [])
        for difference in range(1, 7):
            changed = run_changed(7, 3, family, votes, coins[0], [(1, 2, 0, difference)]).opened
            opened = [(vote, key) for vote, (_, key) in zip(changed, honest)]
            self.assertEqual(len(missing(opened, receipts)), 1)

    def test_receipts_of_a_run(self):
        family = [[0], [1], [2]]
        rows = [triple(101, vote, key) for vote, key in ((5, 99), (5, 7), (100, 0), (0, 100))]
        many = size(3, family, 4)
        coins = [coins_of(numbers_from(seed, many), prime=101, mixers=3, family=family, rows=4) for seed in range(3)]
        opened = [(vote, key) for vote, key, _ in opened_rows(run_tagged(101, 3, family, rows, coins))]
        self.assertEqual(missing(opened, [(5, 7), (0, 100), (5, 98), (100, 0), (5, 99)]), [(5, 98)])


class CopiesTest(unittest.TestCase):
    """Point 3."""

    def test_what_is_passed_in_stays(self):
        row, table = [5, 6, 6], [[5, 6, 6], [0, 0, 0]]
        write_row(row)
        write_board(7, table)
        opened, receipts = [(3, 1), (0, 0)], [(0, 0), (2, 2), (0, 0)]
        before = deepcopy((row, table, opened, receipts))
        missing(opened, receipts).append(9)
        self.assertEqual((row, table, opened, receipts), before)

    def test_pairs_that_are_lists(self):
        receipts = [[3, 1], [2, 2]]
        found = missing([[3, 1]], receipts)
        self.assertEqual(found, [[2, 2]])
        found[0].append(9)
        self.assertEqual(receipts, [[3, 1], [2, 2]])

    def test_what_is_read_is_new(self):
        text = "prime 7\n5 6 6 : 3"
        read_board(3, text)[1][0].append(9)
        self.assertEqual(read_board(3, text), (7, [[5, 6, 6]]))


if __name__ == "__main__":
    unittest.main()
