"""Rankings of options, and their numbers as votes."""

from veilcount.errors import BadValue
from veilcount.field import next_prime
from veilcount.perms import factorial, is_order, order_number, order_of_number


def ballot_number(ranking):
    """Return the number of a ranking."""
    if not is_order(ranking):
        raise BadValue(len(ranking))
    return order_number(ranking)


def ranking_of(options, number):
    """Return the ranking with this number."""
    return order_of_number(options, number)


def ballot_prime(options):
    """Return the least prime that is not less than the number of rankings."""
    return next_prime(factorial(options))


def best_of(ranking, left):
    """Return the first option of a ranking that is left, or None."""
    for option in ranking:
        if option in left:
            return option
    return None


def is_ahead(ranking, option, other):
    """Return whether an option stands ahead of another one."""
    return option != other and best_of(ranking, [option, other]) == option
