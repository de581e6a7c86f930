"""Points 1, 2, 3, 17, 22, 25, 29, 31, 40, 47, 52 and 60: what the document promises over the whole program."""

import ast
import os
import unittest
from itertools import product

import veilcount
from draws import all_lots, numbers_from, record_fields
from veilcount import errors
from veilcount.audit import faults
from veilcount.coins import coins_of, size
from veilcount.house import Election, replayed
from veilcount.letters import Setting, run_letters
from veilcount.plans import family_of
from veilcount.reports import read_board, write_board
from veilcount.runs import last_table, run
from veilcount.shares import values_of
from veilcount.sheets import Sheet, read_sheet, write_sheet
from veilcount.stories import rows_of, stories
from veilcount.tallies import counts
from veilcount.views import known_votes, view

FOLDER = os.path.dirname(veilcount.__file__)

# A prime, a number of mixers, a family and how many votes there are; small enough to try all coins.
SMALL = [
    (2, 2, [[0]], 2),
    (2, 2, [[0], []], 2),
    (3, 2, [[1]], 2),
    (2, 1, [[]], 3),
    (2, 3, [[0, 2]], 2),
]


def all_coins(prime, mixers, family, rows):
    """All coins of a run; an order has as many numbers as there are orders."""
    orders = 1
    for row in range(2, rows + 1):
        orders *= row
    places = []
    for place in range(size(mixers, family, rows)):
        probe = [0] * size(mixers, family, rows)
        probe[place] = prime * orders - 1
        drawn = coins_of(probe, prime=prime, mixers=mixers, family=family, rows=rows)
        is_order = any(stage.order != list(range(rows)) for stage in drawn.stages)
        places.append(range(orders if is_order else prime))
    for numbers in product(*places):
        yield coins_of(list(numbers), prime=prime, mixers=mixers, family=family, rows=rows)


class FactsTest(unittest.TestCase):
    """Points 1 and 2, by trying all coins."""

    def test_the_count_is_exact_and_the_lots_learn_nothing(self):
        for prime, mixers, family, rows in SMALL:
            drawn = list(all_coins(prime, mixers, family, rows))
            lots = [lot for lot in all_lots(mixers) if any(set(lot) <= set(other) for other in family)]
            seen = {}
            for votes in product(range(prime), repeat=rows):
                for coins in drawn:
                    record = run(prime, mixers, family, list(votes), coins)
                    self.assertEqual(sorted(record.opened), sorted(votes))
                    for lot in lots:
                        views = seen.setdefault((tuple(lot), tuple(sorted(votes)), votes), {})
                        found = view(record, lot)
                        views[found] = views.get(found, 0) + 1
            for (lot, kinds, votes), views in seen.items():
                # Just the same views, each with just as many coins, as for the same votes in ascending order.
                self.assertEqual(views, seen[lot, kinds, kinds])

    def test_two_lots_that_cover_all_mixers_learn_all(self):
        for prime, mixers, family, rows in SMALL:
            for votes in product(range(prime), repeat=rows):
                coins = next(all_coins(prime, mixers, family, rows))
                record = run(prime, mixers, family, list(votes), coins)
                self.assertEqual(known_votes(record, [0], list(range(1, mixers))), list(votes))


class NothingAtRandomTest(unittest.TestCase):
    """Point 3."""

    def test_the_package_imports_nothing_that_draws_reads_or_tells_the_time(self):
        allowed = {"heapq", "math", "itertools", "collections", "__future__"}
        for name in sorted(os.listdir(FOLDER)):
            if name.endswith(".py"):
                with open(os.path.join(FOLDER, name), encoding="utf-8") as file:
                    tree = ast.parse(file.read())
                for node in ast.walk(tree):
                    self.assertNotIsInstance(node, ast.Import)
                    if isinstance(node, ast.ImportFrom):
                        self.assertTrue(node.module.startswith("veilcount.") or node.module in allowed, node.module)

    def test_the_same_coins_give_the_same_run(self):
        family = family_of(5, 2)
        numbers = numbers_from(1, size(5, family, 4))
        found = []
        for _ in range(3):
            coins = coins_of(numbers, prime=101, mixers=5, family=family, rows=4)
            found.append(record_fields(run(101, 5, family, [100, 0, 7, 7], coins)))
        self.assertEqual(found[0], found[1])
        self.assertEqual(found[0], found[2])


class ErrorsTest(unittest.TestCase):
    """Point 60."""

    def test_all_errors_of_the_package(self):
        kinds = [thing for thing in vars(errors).values() if isinstance(thing, type)]
        self.assertEqual(sorted(kind.__name__ for kind in kinds),
                         ["BadCoins", "BadLots", "BadOrder", "BadPrime", "BadValue", "LineError", "PhaseError",
                          "TagError", "VeilError", "VoteError"])
        for kind in kinds:
            self.assertTrue(issubclass(kind, errors.VeilError))
            self.assertTrue(issubclass(kind, ValueError))
            for other in kinds:
                self.assertEqual(issubclass(kind, other), kind is other or other is errors.VeilError)

    def test_no_other_module_has_errors_of_its_own(self):
        for name in sorted(os.listdir(FOLDER)):
            if name.endswith(".py") and name != "errors.py":
                module = __import__("veilcount." + name[:-3], fromlist=["*"])
                for thing in vars(module).values():
                    if isinstance(thing, type) and issubclass(thing, Exception):
                        self.assertEqual(thing.__module__, "veilcount.errors")


class TogetherTest(unittest.TestCase):
    """A whole election, by all parts of the program."""

    def open_election(self, mixers, together, seed):
        election = Election(options=3, mixers=mixers, family=family_of(mixers, together), voters=6)
        for voter, number in enumerate(numbers_from(seed, 6)):
            election.cast(voter, [[0, 1, 2], [2, 1, 0], [1, 0, 2], [1, 2, 0]][number % 4])
        election.withdraw(seed % 6)
        election.close()
        election.mix(numbers_from(seed + 1, election.needed()))
        return election

    def test_the_record_has_no_faults(self):
        for seed in range(5):
            election = self.open_election(5, 2, seed)
            self.assertEqual(faults(election.record), [])

    def test_the_board_tells_the_opened_values(self):
        for seed in range(5):
            election = self.open_election(3, 1, seed)
            table = last_table(election.record)
            prime, again = read_board(3, write_board(election.prime, table))
            self.assertEqual((prime, again), (election.prime, table))
            self.assertEqual(values_of(prime, again), election.record.opened)

    def test_letters_and_sheets_give_the_same_board(self):
        for seed in range(5):
            election = self.open_election(4, 1, seed)
            votes, numbers = election.votes(), election.deeds[-1][1]
            sheet = read_sheet(write_sheet(Sheet(election.prime, 4, election.family, votes, numbers)))
            coins = coins_of(sheet.numbers, prime=sheet.prime, mixers=4, family=sheet.family, rows=len(sheet.votes))
            setting = Setting(sheet.prime, 4, sheet.family, len(sheet.votes))
            table = run_letters(setting, sheet.votes, coins, numbers_from(seed, 100))
            self.assertEqual(table, last_table(election.record))

    def test_each_lot_sees_the_same_of_each_story(self):
        for seed in range(2):
            election = self.open_election(3, 1, seed)
            votes, family = election.votes(), election.family
            numbers = election.deeds[-1][1]
            coins = coins_of(numbers, prime=election.prime, mixers=3, family=family, rows=len(votes))
            for lot in ([], [0], [1], [2]):
                told = stories(election.prime, 3, family, lot, votes, coins)
                self.assertEqual([story for story, _ in told], rows_of(votes))
                for story, other in told:
                    record = run(election.prime, 3, family, story, other)
                    self.assertEqual(view(record, lot), election.seen_by(lot))
                    self.assertEqual(counts(record.opened, 6), counts(votes, 6))

    def test_the_log_gives_the_same_election(self):
        for seed in range(5):
            election = self.open_election(5, 2, seed)
            other = replayed(election.log(), options=3, mixers=5, family=family_of(5, 2), voters=6)
            self.assertEqual(record_fields(other.record), record_fields(election.record))
            self.assertEqual(other.runoff(), election.runoff())


if __name__ == "__main__":
    unittest.main()
