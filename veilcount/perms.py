"""Orders of rows: moving by them, and counting them."""

from veilcount.copies import copied
from veilcount.errors import BadOrder, BadValue


def is_order(order):
    """Return whether a list has each number from 0 up to its length less 1 once."""
    return sorted(order) == list(range(len(order)))


def checked_order(order):
    """Return a copy of a list, which must be an order."""
    if not is_order(order):
        raise BadOrder()
    return list(order)


def moved(rows, order):
    """Return the moved rows: the new row r is the old row order[r]."""
    if len(order) != len(rows) or not is_order(order):
        raise BadOrder()
    return [copied(rows[place]) for place in order]


def undone(order):
    """Return the order that moves the rows back."""
    back = checked_order(order)
    for row, place in enumerate(order):
        back[place] = row
    return back


def chained(first, second):
    """Return the order that moves by the first one and then by the second one."""
    return moved(checked_order(first), second)


def factorial(many):
    """Return the number of orders of many rows."""
    ways = 1
    for rows in range(2, many + 1):
        ways = ways * rows
    return ways


def order_of_number(many, number):
    """Return the order of many rows with this number, in the order of lists."""
    ways = factorial(many)
    if number < 0 or number >= ways:
        raise BadValue(number)
    left = list(range(many))
    order = []
    while left:
        # So many orders begin alike, up to and with the row that is chosen now.
        ways = ways // len(left)
        order.append(left.pop(number // ways))
        number = number % ways
    return order


def order_number(order):
    """Return the number of an order, in the order of lists."""
    left = sorted(checked_order(order))
    number = 0
    for row in order:
        place = left.index(row)
        number = number * len(left) + place
        left.pop(place)
    return number


def matching(old, new):
    """Return the order that makes the new rows of the old ones, or None."""
    if len(old) != len(new):
        return None
    left = list(range(len(old)))
    order = []
    for row in new:
        place = _first_place(old, left, row)
        if place is None:
            return None
        left.remove(place)
        order.append(place)
    return order


def _first_place(rows, places, row):
    """Return the first of the places at which this row stands, or None."""
    for place in places:
        if rows[place] == row:
            return place
    return None
