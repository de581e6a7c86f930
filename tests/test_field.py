"""Points 3 and 4: primes and values."""

import unittest

from veilcount.errors import BadPrime, BadValue
from veilcount.field import checked_prime, inverse, is_prime, next_prime, power, total

PRIMES = (2, 3, 5, 7, 11, 101, 999983)


def plainly_prime(number):
    """Point 4 in its own words."""
    return number >= 2 and all(number % divisor != 0 for divisor in range(2, number))


class PrimesTest(unittest.TestCase):

    def test_small_numbers(self):
        self.assertEqual([number for number in range(-10, 30) if is_prime(number)], [2, 3, 5, 7, 11, 13, 17, 19, 23, 29])

    def test_returns_true_or_false(self):
        self.assertIs(is_prime(2), True)
        self.assertIs(is_prime(1), False)
        self.assertIs(is_prime(0), False)
        self.assertIs(is_prime(-7), False)
        self.assertIs(is_prime(4), False)

    def test_is_as_the_document_says(self):
        for number in range(-20, 1200):
            self.assertEqual(is_prime(number), plainly_prime(number), number)

    def test_squares_of_primes(self):
        for prime in (2, 3, 5, 7, 11, 13, 31, 97, 499, 991, 997):
            self.assertTrue(is_prime(prime))
            self.assertFalse(is_prime(prime * prime))

    def test_great_primes(self):
        for number in (999983, 999979, 999961, 1000003):
            self.assertTrue(is_prime(number), number)

    def test_great_products_of_two_primes(self):
        for one, other in ((997, 991), (2, 499979), (3, 333323), (983, 997), (101, 9883)):
            self.assertTrue(is_prime(one) and is_prime(other))
            self.assertLess(one * other, 1000000)
            self.assertFalse(is_prime(one * other))

    def test_checked_prime(self):
        for prime in PRIMES:
            self.assertEqual(checked_prime(prime), prime)
        for number in (-5, 0, 1, 4, 9, 997 * 991):
            with self.assertRaises(BadPrime) as caught:
                checked_prime(number)
            self.assertEqual(caught.exception.number, number)

    def test_next_prime(self):
        for number in (-10 ** 30, -1, 0, 1, 2):
            self.assertEqual(next_prime(number), 2)
        for prime in PRIMES:
            self.assertEqual(next_prime(prime), prime)
        for number, prime in ((4, 5), (6, 7), (8, 11), (9, 11), (24, 29), (120, 127), (999962, 999979), (999984, 1000003)):
            self.assertEqual(next_prime(number), prime)

    def test_next_prime_is_the_least_one(self):
        for number in range(-3, 400):
            found = next_prime(number)
            self.assertTrue(plainly_prime(found))
            self.assertFalse(any(plainly_prime(other) for other in range(number, found)))


class ArithmeticTest(unittest.TestCase):

    def test_total(self):
        self.assertEqual(total(7, []), 0)
        self.assertEqual(total(7, [3]), 3)
        self.assertEqual(total(7, [3, 4]), 0)
        self.assertEqual(total(7, [-1]), 6)
        self.assertEqual(total(7, [-8, -6]), 0)
        self.assertEqual(total(7, [100, 7, 1]), 3)
        self.assertEqual(total(2, [10 ** 40 + 1]), 1)

    def test_power(self):
        self.assertEqual(power(7, 3, 0), 1)
        self.assertEqual(power(7, 0, 0), 1)
        self.assertEqual(power(2, 0, 0), 1)
        self.assertEqual(power(7, 3, 1), 3)
        self.assertEqual(power(7, 10, 1), 3)
        self.assertEqual(power(7, -1, 1), 6)
        self.assertEqual(power(7, -2, 3), 6)
        self.assertEqual(power(7, 0, 5), 0)
        self.assertEqual(power(7, 14, 2), 0)

    def test_power_is_that_of_python(self):
        for prime in PRIMES:
            for base in (-prime - 2, -3, 0, 1, 2, prime - 1, prime, prime + 5, 10 ** 30):
                for exponent in (0, 1, 2, 3, 4, 7, 8, 31, prime - 1, prime, 10 ** 12 + 1):
                    self.assertEqual(power(prime, base, exponent), pow(base, exponent, prime))

    def test_inverse(self):
        self.assertEqual(inverse(2, 1), 1)
        self.assertEqual(inverse(7, 3), 5)
        self.assertEqual(inverse(7, -1), 6)
        self.assertEqual(inverse(7, 10), 5)
        self.assertEqual(inverse(7, -4), 5)

    def test_the_product_with_the_inverse_is_1(self):
        for prime in PRIMES:
            for number in (-10 ** 20 - 1, -prime - 1, -1, 1, 2, 3, prime - 1, prime + 1, 2 * prime + 1):
                if number % prime != 0:
                    found = inverse(prime, number)
                    self.assertIn(found, range(prime))
                    self.assertEqual(found * number % prime, 1)

    def test_inverse_of_0(self):
        for number in (0, 7, -7, 7 * 10 ** 5000):
            with self.assertRaises(BadValue) as caught:
                inverse(7, number)
            self.assertEqual(caught.exception.value, number)

    def test_point_3_numbers_stay_as_they_are(self):
        numbers = [9, -9, 3]
        total(7, numbers)
        self.assertEqual(numbers, [9, -9, 3])


if __name__ == "__main__":
    unittest.main()
