"""Points 3 and 25: rankings and their numbers."""

import unittest
from itertools import permutations

from veilcount.ballots import ballot_number, ballot_prime, best_of, is_ahead, ranking_of
from veilcount.errors import BadValue


class NumbersTest(unittest.TestCase):

    def test_no_options_and_one_option(self):
        self.assertEqual((ballot_number([]), ballot_number([0])), (0, 0))
        self.assertEqual((ranking_of(0, 0), ranking_of(1, 0)), ([], [0]))

    def test_the_first_and_the_last_number(self):
        for options, rankings in ((2, 2), (3, 6), (4, 24), (6, 720)):
            self.assertEqual(ranking_of(options, 0), list(range(options)))
            self.assertEqual(ranking_of(options, rankings - 1), list(range(options))[::-1])
            self.assertEqual(ballot_number(list(range(options))), 0)
            self.assertEqual(ballot_number(list(range(options))[::-1]), rankings - 1)

    def test_the_order_of_lists(self):
        # The best option stands first, so it decides.
        for options in range(7):
            for number, ranking in enumerate(permutations(range(options))):
                self.assertEqual(ballot_number(list(ranking)), number)
                self.assertEqual(ranking_of(options, number), list(ranking))

    def test_they_undo_one_another(self):
        for options in range(6):
            for ranking in permutations(range(options)):
                self.assertEqual(ranking_of(options, ballot_number(list(ranking))), list(ranking))

    def test_lists_that_are_no_orders(self):
        for ranking in ([1], [0, 0], [0, 2], [1, 2, 3], [-1, 0], [0, 1, 1, 2], [0, 1, 2, 4], [10 ** 30]):
            with self.assertRaises(BadValue) as caught:
                ballot_number(ranking)
            self.assertEqual(caught.exception.value, len(ranking))

    def test_numbers_below_0_and_too_great(self):
        for options, number in ((0, -1), (0, 1), (1, 1), (3, -1), (3, 6), (3, 10 ** 30), (6, 720), (6, -720)):
            with self.assertRaises(BadValue) as caught:
                ranking_of(options, number)
            self.assertEqual(caught.exception.value, number)

    def test_ballot_prime(self):
        self.assertEqual([ballot_prime(options) for options in range(7)], [2, 2, 2, 7, 29, 127, 727])

    def test_point_3(self):
        ranking = [2, 0, 1]
        ballot_number(ranking)
        best_of(ranking, ranking)
        is_ahead(ranking, 0, 1)
        self.assertEqual(ranking, [2, 0, 1])
        self.assertRaises(BadValue, ballot_number, [2, 0])


class PlacesTest(unittest.TestCase):

    def test_best_of(self):
        self.assertEqual(best_of([2, 0, 1], [0, 1, 2]), 2)
        self.assertEqual(best_of([2, 0, 1], [0, 1]), 0)
        self.assertEqual(best_of([2, 0, 1], [1, 0]), 0)
        self.assertEqual(best_of([2, 0, 1], [1]), 1)
        # The option 0 is an option as the others are.
        self.assertEqual(best_of([0, 1], [0]), 0)

    def test_best_of_with_nothing_left(self):
        self.assertIsNone(best_of([2, 0, 1], []))
        self.assertIsNone(best_of([], [0, 1]))
        self.assertIsNone(best_of([], []))
        self.assertIsNone(best_of([2, 0, 1], [3]))

    def test_is_ahead(self):
        for option, other in ((2, 0), (2, 1), (0, 1)):
            self.assertIs(is_ahead([2, 0, 1], option, other), True)
            self.assertIs(is_ahead([2, 0, 1], other, option), False)

    def test_no_option_is_ahead_of_itself(self):
        for option in range(3):
            self.assertIs(is_ahead([2, 0, 1], option, option), False)


if __name__ == "__main__":
    unittest.main()
