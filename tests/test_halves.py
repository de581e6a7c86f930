"""Points 3, 41, 42, 43 and 44: half-opened audits."""

import unittest
from itertools import permutations, product

from draws import numbers_from
from veilcount.errors import BadOrder
from veilcount.halves import (caught, coins_of_number, honest_claims, links_of, opened_claims, parts_of, passing,
                              passing_in, passing_plainly, same_links, worlds)
from veilcount.perms import moved


def orders_of(rows):
    return [list(order) for order in permutations(range(rows))]


def coins_of_rows(rows):
    return [list(coins) for coins in product(range(2), repeat=rows)]


class ClaimsTest(unittest.TestCase):
    """Points 41 and 42."""

    def test_honest_claims_by_hand(self):
        # The middle row 0 is the old row 2, and it becomes the last row 1, for [1, 0, 2] takes it there.
        self.assertEqual(honest_claims([2, 0, 1], [1, 0, 2]), ([2, 0, 1], [1, 0, 2]))
        self.assertEqual(honest_claims([2, 0, 1], [1, 2, 0]), ([2, 0, 1], [2, 0, 1]))
        self.assertEqual(honest_claims([], []), ([], []))
        self.assertEqual(honest_claims([0], [0]), ([0], [0]))

    def test_honest_claims_are_where_the_rows_come_from_and_go_to(self):
        for rows in range(5):
            names = [chr(ord("a") + row) for row in range(rows)]
            for first, second in product(orders_of(rows), repeat=2):
                middle = moved(names, first)
                last = moved(middle, second)
                claims = honest_claims(first, second)
                self.assertIsInstance(claims, tuple)
                left, right = claims
                self.assertEqual([names[end] for end in left], middle)
                self.assertEqual([last[end] for end in right], middle)

    def test_lists_that_are_no_orders(self):
        for first, second in (([0, 0], [0, 1]), ([0, 1], [1, 1]), ([0, 2], [0, 1])):
            with self.assertRaises(BadOrder):
                honest_claims(first, second)

    def test_opened_claims(self):
        self.assertEqual(opened_claims([5, None, 7], [None, 1, 2], [0, 1, 0]), [(0, 5), (1, 1), (0, 7)])
        self.assertEqual(opened_claims([5, None, 7], [None, 1, 2], [1, 0, 1]), [(1, None), (0, None), (1, 2)])
        self.assertEqual(opened_claims([], [], []), [])

    def test_a_claim_that_cannot_be_shown(self):
        self.assertEqual(caught([None], [0], [0]), [0])
        self.assertEqual(caught([None], [0], [1]), [])
        self.assertEqual(caught([0], [None], [1]), [0])
        # Two of them are not one end that both claim: each is caught by itself.
        self.assertEqual(caught([None, None], [0, 1], [0, 0]), [0, 1])

    def test_two_rows_that_claim_the_same_end(self):
        # On the same side the later one is caught.
        self.assertEqual(caught([3, 3], [0, 1], [0, 0]), [1])
        self.assertEqual(caught([0, 1], [3, 3], [1, 1]), [1])
        # On different sides nobody is.
        self.assertEqual(caught([3, 3], [0, 1], [0, 1]), [])
        self.assertEqual(caught([3, 3], [0, 1], [1, 0]), [])
        # The same number on both sides is not the same end.
        self.assertEqual(caught([3, 0], [1, 3], [0, 1]), [])

    def test_three_rows_that_claim_the_same_end(self):
        self.assertEqual(caught([1, 1, 1], [0, 1, 2], [0, 0, 0]), [1, 2])
        self.assertEqual(caught([1, 1, 1], [0, 1, 2], [1, 0, 0]), [2])
        self.assertEqual(caught([1, 2, 1], [0, 1, 2], [0, 0, 0]), [2])

    def test_several_that_are_caught(self):
        self.assertEqual(caught([0, 0, None, 2], [5, 5, 5, None], [0, 0, 0, 1]), [1, 2, 3])
        self.assertEqual(caught([0, 0, None, 2], [5, 5, 5, None], [1, 1, 1, 0]), [1, 2])

    def test_caught_in_other_words(self):
        ends = (None, 0, 1)
        for rows in range(4):
            for left, right in product(product(ends, repeat=rows), repeat=2):
                for coins in coins_of_rows(rows):
                    plain, seen = [], []
                    for row in range(rows):
                        end = (left, right)[coins[row]][row]
                        if end is None or [coins[row], end] in seen:
                            plain.append(row)
                        seen.append([coins[row], end])
                    self.assertEqual(caught(list(left), list(right), coins), plain)

    def test_coins_of_a_number(self):
        self.assertEqual(coins_of_number(3, 0), [0, 0, 0])
        self.assertEqual(coins_of_number(3, 1), [1, 0, 0])
        self.assertEqual(coins_of_number(3, 6), [0, 1, 1])
        self.assertEqual(coins_of_number(0, 0), [])
        self.assertEqual(coins_of_number(1, 1), [1])
        # Digits that no row has are left out.
        self.assertEqual(coins_of_number(3, 8), [0, 0, 0])
        self.assertEqual(coins_of_number(2, 13), [1, 0])
        self.assertEqual(coins_of_number(0, 5), [])
        self.assertEqual(coins_of_number(100, 2 ** 99), [0] * 99 + [1])

    def test_each_row_of_coins_has_one_number(self):
        for rows in range(6):
            found = [coins_of_number(rows, number) for number in range(2 ** rows)]
            self.assertEqual(sorted(found), coins_of_rows(rows))
            for number, coins in enumerate(found):
                self.assertEqual(sum(coin * 2 ** row for row, coin in enumerate(coins)), number)


class WebsTest(unittest.TestCase):
    """Point 43."""

    def test_links(self):
        self.assertEqual(links_of([5, None, 7, None], [1, 2, None, None]),
                         [[(0, 5), (1, 1)], [(1, 2)], [(0, 7)], []])
        self.assertEqual(links_of([0], [0]), [[(0, 0), (1, 0)]])
        self.assertEqual(links_of([], []), [])

    def assert_parts(self, links, parts):
        found = parts_of(links)
        self.assertEqual(sorted(sorted(part) for part in found), sorted(sorted(part) for part in parts))
        for part in found:
            self.assertIsInstance(part, list)
            self.assertEqual(len(set(part)), len(part))

    def test_parts_by_hand(self):
        self.assert_parts([], [])
        self.assert_parts([[]], [])
        self.assert_parts([[(0, 5)]], [[(0, 5)]])
        self.assert_parts([[(0, 5), (1, 5)]], [[(0, 5), (1, 5)]])
        self.assert_parts([[(0, 5), (1, 5)], [(0, 5)]], [[(0, 5), (1, 5)]])
        # Two parts, three, and one that the last row joins of two.
        self.assert_parts([[(0, 5), (1, 1)], [(0, 6), (1, 2)]], [[(0, 5), (1, 1)], [(0, 6), (1, 2)]])
        self.assert_parts([[(0, 5), (1, 1)], [], [(0, 6)], [(1, 5)]], [[(0, 5), (1, 1)], [(0, 6)], [(1, 5)]])
        self.assert_parts([[(0, 5), (1, 1)], [(0, 6), (1, 2)], [(0, 5), (1, 2)]],
                          [[(0, 5), (1, 1), (0, 6), (1, 2)]])

    def test_parts_by_going_from_end_to_end(self):
        ends = (None, 0, 1, 2)
        for left, right in product(product(ends, repeat=3), repeat=2):
            links = links_of(list(left), list(right))
            whole = {end for row in links for end in row}
            parts = []
            while whole:
                part = {min(whole)}
                for _ in range(len(whole)):
                    for row in links:
                        if part & set(row):
                            part |= set(row)
                parts.append(sorted(part))
                whole -= part
            self.assert_parts(links, parts)

    def test_the_five_cases_of_the_numbers(self):
        # No half row, one end more than whole rows: one of the ends stays shut.
        chain = [[(0, 0), (1, 0)], [(0, 0), (1, 1)], [(0, 1), (1, 1)]]
        self.assertEqual(passing_in([(0, 0), (1, 0), (1, 1), (0, 1)], chain), 4)
        self.assertEqual(passing_in([(0, 3), (1, 7)], [[(0, 3), (1, 7)]]), 2)
        # No half row, as many ends as whole rows: one way round or the other.
        ring = chain + [[(0, 1), (1, 0)]]
        self.assertEqual(passing_in([(0, 0), (1, 0), (1, 1), (0, 1)], ring), 2)
        # One half row: it opens its only end, and so all others have one way.
        self.assertEqual(passing_in([(0, 0), (1, 0), (1, 1), (0, 1)], chain + [[(1, 1)]]), 1)
        self.assertEqual(passing_in([(1, 4)], [[(1, 4)]]), 1)
        # More rows than ends, or two half rows in one part.
        self.assertEqual(passing_in([(0, 0), (1, 0), (1, 1), (0, 1)], ring + [[(0, 0), (1, 0)]]), 0)
        self.assertEqual(passing_in([(0, 0), (1, 0)], [[(0, 0), (1, 0)], [(0, 0)], [(1, 0)]]), 0)
        self.assertEqual(passing_in([(1, 4)], [[(1, 4)], [(1, 4)]]), 0)
        self.assertEqual(passing_in([(0, 0), (1, 0), (1, 1), (0, 1)], ring + [[(0, 0)]]), 0)

    def test_rows_that_claim_the_same_two_ends(self):
        self.assertEqual(passing_in([(0, 0), (1, 0)], [[(0, 0), (1, 0)]] * 2), 2)
        self.assertEqual(passing_in([(0, 0), (1, 0)], [[(0, 0), (1, 0)]] * 3), 0)
        self.assertEqual(passing([4, 4], [6, 6]), 2)
        self.assertEqual(passing([4, 4, 4], [6, 6, 6]), 0)

    def test_other_parts_do_not_count(self):
        links = [[(0, 0), (1, 0)], [(0, 1)], [(0, 2), (1, 2)], [(0, 2), (1, 2)]]
        self.assertEqual([passing_in(part, links) for part in ([(0, 0), (1, 0)], [(0, 1)], [(0, 2), (1, 2)])],
                         [2, 1, 2])

    def test_the_numbers_of_the_parts_are_multiplied(self):
        self.assertEqual(passing([0, 1, 2], [0, 1, 2]), 8)
        self.assertEqual(passing([0, 0, 2], [0, 1, 2]), 6)
        self.assertEqual(passing([0, 0, None], [0, 1, 2]), 3)
        self.assertEqual(passing([0, None, 0, None], [0, 2, 1, 1]), 1)

    def test_a_row_that_can_show_nothing(self):
        self.assertEqual(passing([None], [None]), 0)
        self.assertEqual(passing([0, None, 2], [0, None, 2]), 0)
        self.assertEqual(passing_plainly([0, None, 2], [0, None, 2]), 0)

    def test_no_rows_at_all(self):
        self.assertEqual(passing([], []), 1)
        self.assertEqual(passing_plainly([], []), 1)

    def test_all_claims_of_few_rows_over_few_ends(self):
        for rows, ends in ((1, 3), (2, 3), (3, 2), (4, 2)):
            claims = [None] + list(range(ends))
            for left, right in product(product(claims, repeat=rows), repeat=2):
                left, right = list(left), list(right)
                self.assertEqual(passing(left, right), passing_plainly(left, right), (left, right))

    def test_claims_of_more_rows(self):
        for seed in range(300):
            numbers = numbers_from(seed, 16, spread=9)
            rows = 5 + seed % 4
            ends = [None if number == -9 else abs(number) % rows for number in numbers]
            left, right = ends[:rows], ends[8:8 + rows]
            self.assertEqual(passing(left, right), passing_plainly(left, right), (left, right))

    def test_passing_plainly_in_other_words(self):
        for left, right in (([0, 0, 1], [0, 1, 1]), ([0, None, 1], [2, 1, 1]), ([3, 3], [3, 3])):
            plain = sum(not caught(left, right, coins) for coins in coins_of_rows(len(left)))
            self.assertEqual(passing_plainly(left, right), plain)
        self.assertEqual(passing_plainly([0, 0, 1], [0, 1, 1]), 4)

    def test_honest_claims_pass_with_all_coins(self):
        for first, second in product(orders_of(4), repeat=2):
            self.assertEqual(passing(*honest_claims(first, second)), 16)
        many = list(range(200))
        self.assertEqual(passing(*honest_claims(many, many[::-1])), 2 ** 200)


class FactsTest(unittest.TestCase):
    """Point 44."""

    def test_honest_claims_catch_nobody(self):
        for rows in range(5):
            for first, second in product(orders_of(rows), repeat=2):
                left, right = honest_claims(first, second)
                for coins in coins_of_rows(rows):
                    self.assertEqual(caught(left, right, coins), [])

    def test_worlds_by_hand(self):
        self.assertEqual(worlds([]), 1)
        self.assertEqual(worlds([0]), 1)
        self.assertEqual(worlds([0, 1, 0, 0]), 6)
        self.assertEqual(worlds([1, 1, 0, 0, 1]), 12)
        self.assertEqual(worlds([1] * 5), 120)

    def test_the_number_of_pairs_with_the_same_links(self):
        for rows in range(4):
            pairs = list(product(orders_of(rows), repeat=2))
            for coins in coins_of_rows(rows):
                for first, second in pairs:
                    alike = [same_links(first, second, one, other, coins) for one, other in pairs]
                    self.assertEqual(alike.count(True), worlds(coins))
                    self.assertEqual(alike.count(True) + alike.count(False), len(pairs))
                    self.assertIs(same_links(first, second, first, second, coins), True)

    def test_same_links(self):
        same, plain = [0, 1, 2], [0, 1, 0]
        # The coins open the middle rows 0 and 2 on the left, and 1 on the right.
        self.assertTrue(same_links(same, same, same, same, plain))
        self.assertTrue(same_links(same, same, same, [2, 1, 0], plain))
        self.assertFalse(same_links(same, same, same, [1, 0, 2], plain))
        self.assertFalse(same_links(same, same, [0, 2, 1], same, plain))
        # Now 0 on the left, 1 and 2 on the right.
        self.assertTrue(same_links(same, same, [0, 2, 1], same, [0, 1, 1]))
        self.assertFalse(same_links(same, same, [0, 2, 1], [2, 1, 0], [0, 1, 1]))
        self.assertFalse(same_links([0, 1], [0, 1], [1, 0], [0, 1], [0, 0]))
        self.assertFalse(same_links([0, 1], [0, 1], [0, 1], [1, 0], [1, 1]))
        self.assertTrue(same_links([], [], [], [], []))

    def test_links_in_other_words(self):
        for first, second, one, other in product(orders_of(3), repeat=4):
            left, right = honest_claims(first, second)
            other_left, other_right = honest_claims(one, other)
            alike = left[0] == other_left[0] and right[1:] == other_right[1:]
            self.assertIs(same_links(first, second, one, other, [0, 1, 1]), alike)


class CopiesTest(unittest.TestCase):
    """Point 3."""

    def test_lists_stay(self):
        first, second, coins = [2, 0, 1], [1, 2, 0], [0, 1, 0]
        left, right = honest_claims(first, second)
        left.append(9)
        right.append(9)
        claims, others = [0, None, 0], [1, 1, 2]
        opened_claims(claims, others, coins).append(9)
        caught(claims, others, coins).append(9)
        passing(claims, others)
        passing_plainly(claims, others)
        same_links(first, second, first, second, coins)
        worlds(coins)
        self.assertEqual((first, second, coins), ([2, 0, 1], [1, 2, 0], [0, 1, 0]))
        self.assertEqual((claims, others), ([0, None, 0], [1, 1, 2]))

    def test_links_and_parts_stay(self):
        claims, others = [0, None, 0], [1, 1, 2]
        links = links_of(claims, others)
        before = [list(ends) for ends in links]
        for part in parts_of(links):
            passing_in(part, links)
            part.append(9)
        self.assertEqual(links, before)
        for ends in links:
            ends.append(9)
        self.assertEqual((claims, others), ([0, None, 0], [1, 1, 2]))


if __name__ == "__main__":
    unittest.main()
