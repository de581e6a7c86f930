"""Points 3, 26 and 55: margins."""

import unittest
from itertools import product

from draws import numbers_from
from veilcount.margins import changes_to_lead, leads, margin, strongest_other
from veilcount.tallies import leaders


def after(numbers, option, changes):
    """The counts behind changes to an option."""
    left = list(numbers)
    for loser in changes:
        left[loser] -= 1
        left[option] += 1
    return left


def reachable(numbers, steps):
    """All counts that at most so many changed votes make of these counts."""
    found = {tuple(numbers)}
    fresh = set(found)
    for _ in range(steps):
        fresh = {tuple(after(left, gainer, [loser])) for left in fresh
                 for gainer, loser in product(range(len(numbers)), repeat=2)
                 if gainer != loser and left[loser] > 0} - found
        found |= fresh
    return found


def least_changes(numbers, option):
    """The least number of changed votes by which an option leads alone, by trying all, or None."""
    for steps in range(sum(numbers) + 1):
        if any(leaders(list(left)) == [option] for left in reachable(numbers, steps)):
            return steps
    return None


class OthersTest(unittest.TestCase):

    def test_strongest_other(self):
        self.assertEqual(strongest_other([3, 5, 4], 0), 1)
        self.assertEqual(strongest_other([3, 5, 4], 1), 2)
        self.assertEqual(strongest_other([3, 5, 4], 2), 1)
        # Of several the first one.
        self.assertEqual(strongest_other([3, 5, 5], 0), 1)
        self.assertEqual(strongest_other([5, 5, 5], 0), 1)
        self.assertEqual(strongest_other([5, 5, 5], 1), 0)
        self.assertEqual(strongest_other([0, 0, 0], 2), 0)
        self.assertEqual(strongest_other([0, 7], 1), 0)

    def test_no_other_option(self):
        self.assertIsNone(strongest_other([5], 0))
        self.assertIsNone(strongest_other([0], 0))

    def test_leads(self):
        self.assertIs(leads([3, 5, 4], 1), True)
        self.assertIs(leads([3, 5, 4], 2), False)
        self.assertIs(leads([5, 5, 4], 0), False)
        self.assertIs(leads([5, 5, 4], 1), False)
        self.assertIs(leads([0], 0), True)
        self.assertIs(leads([0, 0], 0), False)
        for numbers in product(range(3), repeat=3):
            for option in range(3):
                self.assertEqual(leads(list(numbers), option), leaders(list(numbers)) == [option])


class ChangesTest(unittest.TestCase):

    def test_an_option_that_leads_alone_already(self):
        self.assertEqual(changes_to_lead([3, 5, 4], 1), [])
        self.assertEqual(changes_to_lead([1, 0], 0), [])

    def test_by_hand(self):
        # 3 5 4, then 4 4 4, then 5 3 4.
        self.assertEqual(changes_to_lead([3, 5, 4], 0), [1, 1])
        # 3 5 4, then 3 4 5.
        self.assertEqual(changes_to_lead([3, 5, 4], 2), [1])
        # 0 4 3 2, then 1 3 3 2, then 2 2 3 2, then 3 2 2 2.
        self.assertEqual(changes_to_lead([0, 4, 3, 2], 0), [1, 1, 2])
        self.assertEqual(changes_to_lead([2, 3, 3], 0), [1, 2])

    def test_ties(self):
        self.assertEqual(changes_to_lead([5, 5], 0), [1])
        self.assertEqual(changes_to_lead([5, 5], 1), [0])
        self.assertEqual(changes_to_lead([5, 5, 5], 1), [0])
        self.assertEqual(changes_to_lead([1, 1, 1], 2), [0])
        self.assertEqual(changes_to_lead([1, 5, 5], 0), [1, 2, 1, 2])

    def test_no_changes_are_enough(self):
        self.assertIsNone(changes_to_lead([0, 0], 0))
        self.assertIsNone(changes_to_lead([0, 0, 0], 2))

    def test_the_only_vote(self):
        self.assertEqual(changes_to_lead([0, 1, 0], 0), [1])
        self.assertEqual(changes_to_lead([0, 1, 0], 1), [])

    def test_one_option_alone(self):
        self.assertEqual(changes_to_lead([5], 0), [])
        self.assertEqual(changes_to_lead([0], 0), [])

    def test_step_by_step(self):
        for numbers in product(range(5), repeat=3):
            for option in range(3):
                left, plain = list(numbers), []
                while plain is not None and leaders(left) != [option]:
                    others = [other for other in range(3) if other != option]
                    greatest = max(left[other] for other in others)
                    loser = [other for other in others if left[other] == greatest][0]
                    if greatest == 0:
                        plain = None
                    else:
                        plain.append(loser)
                        left = after(left, option, [loser])
                self.assertEqual(changes_to_lead(list(numbers), option), plain)

    def test_behind_the_changes_the_option_leads_alone(self):
        for seed in range(50):
            numbers = [abs(number) for number in numbers_from(seed, 5, spread=60)]
            for option in range(5):
                changes = changes_to_lead(numbers, option)
                left = after(numbers, option, changes)
                self.assertEqual(leaders(left), [option])
                self.assertGreaterEqual(min(left), 0)
                self.assertEqual(sum(left), sum(numbers))
                for many in range(len(changes)):
                    self.assertNotEqual(leaders(after(numbers, option, changes[:many])), [option])

    def test_with_fewer_changed_votes_it_cannot_lead_alone(self):
        for numbers in product(range(4), repeat=3):
            for option in range(3):
                changes = changes_to_lead(list(numbers), option)
                least = least_changes(numbers, option)
                self.assertEqual(least, None if changes is None else len(changes))


class MarginTest(unittest.TestCase):

    def test_by_hand(self):
        self.assertEqual(margin([3, 5, 4]), 1)
        self.assertEqual(margin([9, 5, 4]), 3)
        self.assertEqual(margin([10, 0]), 6)
        self.assertEqual(margin([11, 0]), 6)
        self.assertEqual(margin([0, 1, 0]), 1)

    def test_ties(self):
        self.assertEqual(margin([5, 5]), 1)
        self.assertEqual(margin([5, 5, 5]), 1)
        self.assertEqual(margin([5, 0, 5]), 1)

    def test_no_changes_are_enough_for_any_option(self):
        self.assertIsNone(margin([0, 0]))
        self.assertIsNone(margin([0, 0, 0, 0]))
        # The only option leads alone already.
        self.assertIsNone(margin([5]))
        self.assertIsNone(margin([0]))

    def test_no_options(self):
        self.assertIsNone(margin([]))

    def test_the_least_over_the_options_but_one_that_leads_alone(self):
        for options in (1, 2, 3):
            for numbers in product(range(4), repeat=options):
                found = [least_changes(numbers, option) for option in range(options)
                         if leaders(list(numbers)) != [option]]
                found = [least for least in found if least is not None]
                self.assertEqual(margin(list(numbers)), min(found) if found else None)


class CopiesTest(unittest.TestCase):
    """Point 3."""

    def test_lists_stay(self):
        numbers = [3, 5, 4]
        for option in range(3):
            changes_to_lead(numbers, option).append(9)
            strongest_other(numbers, option)
            leads(numbers, option)
        margin(numbers)
        self.assertEqual(numbers, [3, 5, 4])


if __name__ == "__main__":
    unittest.main()
