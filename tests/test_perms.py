"""Points 3, 6, 7 and 8: orders, their numbers, matchings."""

import unittest
from copy import deepcopy
from itertools import permutations, product

from veilcount.errors import BadOrder, BadValue
from veilcount.perms import (chained, checked_order, factorial, is_order, matching, moved, order_number,
                             order_of_number, undone)

# A number twice, missing, below 0, too great.
NO_ORDERS = ([0, 0], [1, 1], [1], [2], [-1], [-1, 0], [0, 2], [1, 2], [0, 1, 3], [0, 1, 1], [0, 1, 2, 4], [3, 1, 2])


def orders(many):
    """All orders, in the order of lists."""
    return [list(order) for order in permutations(range(many))]


class OrdersTest(unittest.TestCase):

    def test_is_order(self):
        for order in ([], [0], [0, 1], [1, 0], [2, 0, 1], [3, 1, 0, 2]):
            self.assertIs(is_order(order), True)
        for order in NO_ORDERS:
            self.assertIs(is_order(order), False)

    def test_is_order_is_so_for_the_orders_only(self):
        for many in range(5):
            lists = [list(order) for order in product(range(-1, many + 1), repeat=many) if is_order(list(order))]
            self.assertEqual(lists, orders(many))

    def test_checked_order(self):
        order = [2, 0, 1]
        found = checked_order(order)
        self.assertEqual(found, [2, 0, 1])
        found.append(3)
        self.assertEqual(order, [2, 0, 1])
        self.assertEqual(checked_order([]), [])

    def test_bad_orders(self):
        for order in NO_ORDERS:
            rows = ["a", "b", "c", "d"][:len(order)]
            good = list(range(len(order)))
            for call in (lambda: checked_order(order), lambda: moved(rows, order), lambda: undone(order),
                         lambda: chained(order, good), lambda: chained(good, order), lambda: order_number(order)):
                self.assertRaises(BadOrder, call)

    def test_orders_of_another_number_of_rows(self):
        for rows, order in (([], [0]), (["a"], []), (["a", "b"], [0]), (["a"], [0, 1]), (["a", "b"], [2, 1, 0])):
            with self.assertRaises(BadOrder):
                moved(rows, order)
        for first, second in (([], [0]), ([0], []), ([0, 1], [0, 1, 2]), ([2, 1, 0], [1, 0])):
            with self.assertRaises(BadOrder):
                chained(first, second)

    def test_moved(self):
        self.assertEqual(moved([], []), [])
        self.assertEqual(moved(["a"], [0]), ["a"])
        self.assertEqual(moved(["a", "b", "c"], [2, 0, 1]), ["c", "a", "b"])
        self.assertEqual(moved([[5, 6], [7, 8]], [1, 0]), [[7, 8], [5, 6]])
        self.assertEqual(moved([(5, 6), (7, 8)], [1, 0]), [(7, 8), (5, 6)])

    def test_undone(self):
        self.assertEqual(undone([]), [])
        self.assertEqual(undone([0]), [0])
        self.assertEqual(undone([2, 0, 1]), [1, 2, 0])
        for many in range(5):
            rows = [10 * row for row in range(many)]
            for order in orders(many):
                self.assertEqual(moved(moved(rows, order), undone(order)), rows)

    def test_chained(self):
        self.assertEqual(chained([], []), [])
        self.assertEqual(chained([2, 0, 1], [1, 0, 2]), [0, 2, 1])
        self.assertEqual(chained([1, 0, 2], [2, 0, 1]), [2, 1, 0])
        rows = ["a", "b", "c"]
        for first, second in product(orders(3), repeat=2):
            self.assertEqual(moved(rows, chained(first, second)), moved(moved(rows, first), second))
            self.assertEqual(chained(first, undone(first)), [0, 1, 2])

    def test_point_3(self):
        rows, order, other = [[1], [2, [3]], [4]], [2, 0, 1], [1, 0, 2]
        before = deepcopy((rows, order, other))
        fresh = moved(rows, order)
        undone(order)[0] = 9
        chained(order, other)[0] = 9
        checked_order(order)[0] = 9
        order_number(order)
        matching(rows, fresh)[0] = 9
        is_order(order)
        self.assertEqual((rows, order, other), before)
        fresh[0].append(9)
        fresh[2].append(9)
        fresh[2][1].append(9)
        fresh.append(9)
        self.assertEqual((rows, order, other), before)


class NumbersTest(unittest.TestCase):

    def test_factorial(self):
        self.assertEqual([factorial(many) for many in range(7)], [1, 1, 2, 6, 24, 120, 720])
        self.assertEqual(factorial(20), 2432902008176640000)

    def test_no_row_and_one_row(self):
        self.assertEqual(order_of_number(0, 0), [])
        self.assertEqual(order_of_number(1, 0), [0])
        self.assertEqual(order_number([]), 0)
        self.assertEqual(order_number([0]), 0)

    def test_all_orders_of_3_rows(self):
        self.assertEqual([order_of_number(3, number) for number in range(6)],
                         [[0, 1, 2], [0, 2, 1], [1, 0, 2], [1, 2, 0], [2, 0, 1], [2, 1, 0]])

    def test_the_first_and_the_last_number(self):
        for many in (2, 5, 9, 40):
            self.assertEqual(order_of_number(many, 0), list(range(many)))
            self.assertEqual(order_of_number(many, factorial(many) - 1), list(range(many))[::-1])
            self.assertEqual(order_number(list(range(many))), 0)
            self.assertEqual(order_number(list(range(many))[::-1]), factorial(many) - 1)

    def test_the_order_of_lists(self):
        for many in range(7):
            found = [order_of_number(many, number) for number in range(factorial(many))]
            self.assertEqual(found, orders(many))
            self.assertEqual([order_number(order) for order in found], list(range(factorial(many))))

    def test_numbers_of_many_rows(self):
        for number in (1, 10 ** 20, 123456789012345678901234567890, factorial(40) - 2):
            order = order_of_number(40, number)
            self.assertTrue(is_order(order))
            self.assertEqual(order_number(order), number)

    def test_bad_numbers(self):
        for many, number in ((0, -1), (0, 1), (1, 1), (3, -1), (3, 6), (3, 7), (4, 24), (3, 10 ** 5000), (3, -10 ** 30)):
            with self.assertRaises(BadValue) as caught:
                order_of_number(many, number)
            self.assertEqual(caught.exception.value, number)


class MatchingTest(unittest.TestCase):

    def test_different_rows(self):
        self.assertEqual(matching([], []), [])
        self.assertEqual(matching([5], [5]), [0])
        self.assertEqual(matching([5, 6, 7], [7, 5, 6]), [2, 0, 1])

    def test_equal_rows_stay_in_their_order(self):
        self.assertEqual(matching([5, 5, 5], [5, 5, 5]), [0, 1, 2])
        self.assertEqual(matching([5, 6, 5, 6], [6, 6, 5, 5]), [1, 3, 0, 2])
        self.assertEqual(matching([1, 2, 1], [2, 1, 1]), [1, 0, 2])

    def test_rows_may_be_lists_or_tuples(self):
        self.assertEqual(matching([[1, 2], [3, 4], [1, 2]], [[1, 2], [1, 2], [3, 4]]), [0, 2, 1])
        self.assertEqual(matching([(1, 2), (3, 4)], [(3, 4), (1, 2)]), [1, 0])
        self.assertIsNone(matching([[1, 2]], [[2, 1]]))

    def test_no_matching(self):
        for old, new in (([], [1]), ([1], []), ([1], [2]), ([1, 1], [1]), ([1], [1, 1]), ([1, 1, 2], [1, 2, 2]),
                         ([1, 2, 2], [1, 1, 2])):
            self.assertIsNone(matching(old, new))

    def test_all_small_rows(self):
        for many in range(5):
            for old, new in product(product(range(3), repeat=many), repeat=2):
                order = matching(list(old), list(new))
                if sorted(old) != sorted(new):
                    self.assertIsNone(order)
                    continue
                self.assertEqual(moved(list(old), order), list(new))
                for value in set(old):
                    places = [place for place in order if old[place] == value]
                    self.assertEqual(places, sorted(places))


if __name__ == "__main__":
    unittest.main()
