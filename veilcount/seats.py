"""Seats, shared out by the counts of options."""


def by_averages(numbers, many, *, step=1):
    """Return the seats of the options, given one after another to the greatest quotient."""
    seats = [0] * len(numbers)
    for _ in range(many):
        option = next_seat(numbers, seats, step)
        if option is not None:
            seats[option] += 1
    return seats


def next_seat(numbers, seats, step):
    """Return the option that gets the next seat, the first one of several, or None without options."""
    best = None
    for option, number in enumerate(numbers):
        divisor = step * seats[option] + 1
        if best is None or is_greater(number, divisor, numbers[best], step * seats[best] + 1):
            best = option
    return best


def is_greater(number, divisor, other, other_divisor):
    """Return whether the first quotient is greater than the second one."""
    return number * other_divisor > other * divisor


def by_remainders(numbers, many):
    """Return the seats of the options by the whole parts of their due, and then by the greatest remainders."""
    whole = sum(numbers)
    if whole == 0:
        return [0] * len(numbers)
    seats = [number * many // whole for number in numbers]
    ranked = sorted([(-(number * many % whole), option) for option, number in enumerate(numbers)])
    for _, option in ranked[:many - sum(seats)]:
        seats[option] += 1
    return seats
