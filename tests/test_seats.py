"""Points 3 and 54: seats."""

import unittest
from fractions import Fraction
from itertools import product

from draws import numbers_from
from veilcount.seats import by_averages, by_remainders, is_greater, next_seat


def plain_averages(numbers, many, step):
    """Seats one after another, by quotients as fractions."""
    seats = [0] * len(numbers)
    for _ in range(many if numbers else 0):
        quotients = [Fraction(number, step * given + 1) for number, given in zip(numbers, seats)]
        seats[quotients.index(max(quotients))] += 1
    return seats


def plain_remainders(numbers, many):
    """Whole parts, and then one more for the greatest remainders."""
    if sum(numbers) == 0:
        return [0] * len(numbers)
    shares = [Fraction(number * many, sum(numbers)) for number in numbers]
    seats = [int(share) for share in shares]
    left = [share - given for share, given in zip(shares, seats)]
    for _ in range(many - sum(seats)):
        first = left.index(max(left))
        seats[first] += 1
        left[first] = Fraction(-1)
    return seats


class AveragesTest(unittest.TestCase):

    def test_step_one(self):
        # Quotients 53, 24, 23; then 26.5, 24, 23; then 17.7, 24, 23; then 17.7, 12, 23; ..
        self.assertEqual(by_averages([53, 24, 23], 7), [4, 2, 1])
        self.assertEqual(by_averages([53, 24, 23], 7, step=1), [4, 2, 1])
        self.assertEqual([by_averages([53, 24, 23], many) for many in range(5)],
                         [[0, 0, 0], [1, 0, 0], [2, 0, 0], [2, 1, 0], [2, 1, 1]])

    def test_step_two(self):
        # Divisors 1, 3, 5: 53, 24, 23; then 17.7, 24, 23; ..
        self.assertEqual(by_averages([53, 24, 23], 7, step=2), [3, 2, 2])
        self.assertEqual(by_averages([53, 24, 23], 2, step=2), [1, 1, 0])

    def test_step_three(self):
        # Divisors 1, 4, 7: behind one seat each, 13.25, 6, 5.75; then 7.6, 6, 5.75; then 5.3, 6, 5.75.
        self.assertEqual(by_averages([53, 24, 23], 6, step=3), [3, 2, 1])
        self.assertEqual(by_averages([53, 24, 23], 5, step=3), [3, 1, 1])

    def test_a_great_step_gives_one_seat_to_each(self):
        self.assertEqual(by_averages([53, 24, 1], 3, step=1000), [1, 1, 1])

    def test_ties_go_to_the_first_option(self):
        self.assertEqual(by_averages([5, 5, 5], 1), [1, 0, 0])
        self.assertEqual(by_averages([5, 5, 5], 2), [1, 1, 0])
        self.assertEqual(by_averages([5, 5, 5], 4), [2, 1, 1])
        # 6 by 2 seats and 3 by 1 seat are the same quotient.
        self.assertEqual(by_averages([6, 3], 2), [2, 0])
        self.assertEqual(by_averages([3, 6], 2), [1, 1])

    def test_counts_of_nought(self):
        self.assertEqual(by_averages([0, 4, 0], 5), [0, 5, 0])
        # All quotients are 0, and the first option has one of them.
        self.assertEqual(by_averages([0, 0, 0], 3), [3, 0, 0])

    def test_no_options_and_no_seats(self):
        self.assertEqual(by_averages([], 0), [])
        self.assertEqual(by_averages([], 5), [])
        self.assertEqual(by_averages([3, 1], 0), [0, 0])

    def test_one_option(self):
        self.assertEqual(by_averages([3], 4), [4])
        self.assertEqual(by_averages([0], 4), [4])

    def test_by_fractions(self):
        for numbers in product(range(5), repeat=3):
            for many, step in product(range(8), (1, 2, 3)):
                found = by_averages(list(numbers), many, step=step)
                self.assertEqual(found, plain_averages(numbers, many, step))
                self.assertEqual(sum(found), many)

    def test_great_counts(self):
        for seed in range(30):
            numbers = [abs(number) for number in numbers_from(seed, 6, spread=10 ** 12)]
            for step in (1, 2, 3, 7):
                self.assertEqual(by_averages(numbers, 40, step=step), plain_averages(numbers, 40, step))

    def test_quotients_that_are_nearly_the_same(self):
        great = 10 ** 40
        self.assertEqual(by_averages([great, great + 1], 1), [0, 1])
        self.assertEqual(by_averages([2 * great, great + 1], 2), [1, 1])
        self.assertEqual(by_averages([2 * great, great], 2), [2, 0])

    def test_next_seat(self):
        self.assertEqual(next_seat([53, 24, 23], [0, 0, 0], 1), 0)
        self.assertEqual(next_seat([53, 24, 23], [2, 0, 0], 1), 1)
        self.assertEqual(next_seat([53, 24, 23], [2, 1, 0], 1), 2)
        self.assertEqual(next_seat([53, 24, 23], [1, 0, 0], 2), 1)
        self.assertEqual(next_seat([6, 3], [1, 0], 1), 0)
        self.assertEqual(next_seat([6, 3, 3], [2, 0, 0], 1), 1)
        self.assertEqual(next_seat([0, 0], [5, 0], 1), 0)
        self.assertEqual(next_seat([4], [9], 3), 0)
        self.assertIsNone(next_seat([], [], 1))

    def test_is_greater(self):
        for number, other in product(range(6), repeat=2):
            for divisor, other_divisor in product(range(1, 6), repeat=2):
                self.assertIs(is_greater(number, divisor, other, other_divisor),
                              Fraction(number, divisor) > Fraction(other, other_divisor))
        self.assertTrue(is_greater(10 ** 40 + 1, 3, 10 ** 40, 3))
        self.assertFalse(is_greater(2, 4, 1, 2))


class RemaindersTest(unittest.TestCase):

    def test_by_hand(self):
        # 3.71, 1.68 and 1.61 of 7.
        self.assertEqual(by_remainders([53, 24, 23], 7), [4, 2, 1])
        # 5.3, 2.4 and 2.3 of 10.
        self.assertEqual(by_remainders([53, 24, 23], 10), [5, 3, 2])
        self.assertEqual(by_remainders([1, 1, 2], 4), [1, 1, 2])

    def test_ties_go_to_the_first_option(self):
        self.assertEqual(by_remainders([1, 1, 1], 1), [1, 0, 0])
        self.assertEqual(by_remainders([1, 1, 1], 2), [1, 1, 0])
        self.assertEqual(by_remainders([5, 5, 5, 5], 6), [2, 2, 1, 1])
        # Remainders 1, 2 and 1 of 4: one seat for the second, and one for the first.
        self.assertEqual(by_remainders([1, 2, 1], 5), [1, 3, 1])
        self.assertEqual(by_remainders([3, 2, 3], 3), [1, 1, 1])

    def test_the_sum_is_nought(self):
        self.assertEqual(by_remainders([0, 0, 0], 5), [0, 0, 0])
        self.assertEqual(by_remainders([0], 1), [0])
        self.assertEqual(by_remainders([], 5), [])

    def test_counts_of_nought(self):
        self.assertEqual(by_remainders([0, 4, 0], 5), [0, 5, 0])
        self.assertEqual(by_remainders([0, 1, 1], 1), [0, 1, 0])

    def test_no_seats(self):
        self.assertEqual(by_remainders([3, 1], 0), [0, 0])
        self.assertEqual(by_remainders([], 0), [])

    def test_by_fractions(self):
        for numbers in product(range(6), repeat=3):
            for many in range(9):
                found = by_remainders(list(numbers), many)
                self.assertEqual(found, plain_remainders(numbers, many))
                self.assertEqual(sum(found), many if sum(numbers) else 0)

    def test_great_counts(self):
        for seed in range(30):
            numbers = [abs(number) for number in numbers_from(seed, 7, spread=10 ** 12)]
            for many in (1, 40, 10 ** 20):
                found = by_remainders(numbers, many)
                self.assertEqual(found, plain_remainders(numbers, many))
                self.assertEqual(sum(found), many)


class CopiesTest(unittest.TestCase):
    """Point 3."""

    def test_lists_stay(self):
        numbers, seats = [53, 24, 23], [1, 0, 0]
        by_averages(numbers, 7).append(9)
        by_averages(numbers, 7, step=2).append(9)
        by_averages(numbers, 0).append(9)
        by_remainders(numbers, 7).append(9)
        next_seat(numbers, seats, 1)
        self.assertEqual((numbers, seats), ([53, 24, 23], [1, 0, 0]))


if __name__ == "__main__":
    unittest.main()
