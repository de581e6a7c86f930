"""Primes, and arithmetic modulo a prime."""

from veilcount.errors import BadPrime, BadValue


def is_prime(number):
    """Return whether a number is a prime."""
    if number < 2:
        return False
    divisor = 2
    while divisor * divisor <= number:
        if number % divisor == 0:
            return False
        divisor += 1
    return True


def checked_prime(number):
    """Return the number, which must be a prime."""
    if not is_prime(number):
        raise BadPrime(number)
    return number


def next_prime(number):
    """Return the least prime that is not less than the number."""
    found = max(2, number)
    while not is_prime(found):
        found += 1
    return found


def total(prime, numbers):
    """Return the sum of the numbers modulo the prime."""
    return sum(numbers) % prime


def power(prime, base, exponent):
    """Return the power modulo the prime, for an exponent of at least 0."""
    result = 1
    square = base % prime
    while exponent > 0:
        if exponent % 2 == 1:
            result = result * square % prime
        square = square * square % prime
        exponent = exponent // 2
    return result


def inverse(prime, number):
    """Return the value whose product with the number is 1 modulo the prime."""
    if number % prime == 0:
        raise BadValue(number)
    # By Fermat, number ** (prime - 1) is 1 modulo the prime.
    return power(prime, number, prime - 2)
