"""The first section of the interface: names, arguments, and the file of each function and class."""

import importlib
import inspect
import os
import unittest

# For each module: its functions and classes with their arguments.
INTERFACE = {
    "errors": {
        "BadPrime": "(number)",
        "BadValue": "(value)",
        "BadOrder": "()",
        "BadCoins": "(due, given)",
        "BadLots": "(first, second)",
        "PhaseError": "(phase)",
        "VoteError": "(voter)",
        "TagError": "(row)",
        "LineError": "(line)",
    },
    "field": {
        "is_prime": "(number)",
        "checked_prime": "(number)",
        "next_prime": "(number)",
        "total": "(prime, numbers)",
        "power": "(prime, base, exponent)",
        "inverse": "(prime, number)",
    },
    "shares": {
        "split": "(prime, value, coins)",
        "join": "(prime, pieces)",
        "fresh_table": "(prime, votes, coins)",
        "values_of": "(prime, table)",
        "column": "(table, mixer)",
        "changed_table": "(prime, table, mixer, differences)",
    },
    "perms": {
        "is_order": "(order)",
        "checked_order": "(order)",
        "moved": "(rows, order)",
        "undone": "(order)",
        "chained": "(first, second)",
        "factorial": "(many)",
        "order_of_number": "(many, number)",
        "order_number": "(order)",
        "matching": "(old, new)",
    },
    "lots": {
        "is_lot": "(lot, mixers)",
        "holders": "(lot, mixers)",
        "cover": "(one, other, mixers)",
        "covering_pair": "(family, mixers)",
        "checked_family": "(family, mixers)",
        "contains": "(lot, part)",
        "stage_of": "(lot, family)",
        "is_inside": "(lot, family)",
        "greatest": "(family)",
        "lots_of": "(mixers, size)",
    },
    "coins": {
        "StageCoins": "(gather, order, spread)",
        "RunCoins": "(votes, stages)",
        "stage_size": "(mixers, lot, rows)",
        "size": "(mixers, family, rows)",
        "coins_of": "(numbers, *, prime, mixers, family, rows)",
        "flat": "(coins)",
        "twin": "(coins)",
    },
    "stages": {
        "StageRecord": "(holders, gathered, held, order)",
        "outsiders": "(mixers, holders)",
        "gathered_pieces": "(prime, table, others, coins)",
        "held_shares": "(prime, table, holders, pieces)",
        "spread_pieces": "(prime, ordered, many, coins)",
        "new_table": "(prime, pieces, mixers, rows)",
        "run_stage": "(prime, mixers, table, holders, coins)",
    },
    "runs": {
        "RunRecord": "(prime, mixers, family, table)",
        "run": "(prime, mixers, family, votes, coins)",
        "last_table": "(record)",
        "check_votes": "(prime, votes)",
        "whole_order": "(record)",
    },
    "views": {
        "view": "(record, lot)",
        "stage_view": "(stage, mixers, lot)",
        "known_votes": "(record, one, other)",
    },
    "swaps": {
        "carrier_of": "(lot, mixers)",
        "hidden_holder": "(held, lot, carrier)",
        "swapped": "(p, mixers, family, lot, votes, others, coins, order=None)",
    },
    "tags": {
        "triple": "(p, vote, key)",
        "passes": "(p, row)",
        "disturbed": "(p, row, differences)",
        "keys_that_pass": "(p, vote, differences)",
        "run_tagged": "(p, mixers, family, rows, coins)",
        "tagged_coins": "(coins)",
        "orders_of": "(coins)",
        "with_orders": "(coins, orders)",
        "opened_rows": "(records)",
        "failing_rows": "(p, rows)",
        "swapped_tagged": "(p, mixers, family, lot, rows, others, coins)",
    },
    "ballots": {
        "ballot_number": "(ranking)",
        "ranking_of": "(options, number)",
        "ballot_prime": "(options)",
        "best_of": "(ranking, left)",
        "is_ahead": "(ranking, option, other)",
    },
    "tallies": {
        "counts": "(values, options)",
        "leaders": "(numbers)",
        "first_counts": "(rankings, left)",
        "weakest": "(left, numbers)",
        "runoff": "(rankings, options)",
        "pairs": "(rankings, options)",
        "beats_all": "(rankings, options)",
        "points": "(rankings, options)",
    },
    "audit": {
        "faults": "(record)",
        "stage_faults": "(prime, mixers, table, stage)",
        "blamed": "(record)",
    },
    "sheets": {
        "Sheet": "(prime, mixers, family, votes, numbers)",
        "write_sheet": "(sheet)",
        "read_sheet": "(text)",
        "read_number": "(word)",
    },
    "cheats": {
        "changed_at": "(prime, table, changes, stage)",
        "run_changed": "(prime, mixers, family, votes, coins, changes)",
        "end_of": "(coins, stage, row)",
        "shifts": "(prime, coins, changes, rows)",
    },
    "plans": {
        "family_of": "(mixers, together)",
        "guards": "(family, lot)",
        "sent_in_stage": "(mixers, lot, rows)",
        "sent_in_run": "(mixers, family, rows)",
    },
    "stories": {
        "kinds_of": "(votes)",
        "story_count": "(votes)",
        "rows_of": "(votes)",
        "next_row": "(votes)",
        "exchanged": "(votes, one, other)",
        "stories": "(p, mixers, family, lot, votes, coins)",
    },
    "halves": {
        "honest_claims": "(first, second)",
        "opened_claims": "(left, right, coins)",
        "caught": "(left, right, coins)",
        "coins_of_number": "(rows, number)",
        "passing_plainly": "(left, right)",
        "passing": "(left, right)",
        "links_of": "(left, right)",
        "parts_of": "(links)",
        "passing_in": "(part, links)",
        "worlds": "(coins)",
        "same_links": "(first, second, other_first, other_second, coins)",
    },
    "letters": {
        "Setting": "(prime, mixers, family, rows)",
        "Net": "(setting, votes, coins)",
        "run_letters": "(setting, votes, coins, picks)",
    },
    "log": {
        "read_number": "(text)",
        "write_deed": "(deed)",
        "read_deed": "(line)",
        "write_log": "(deeds)",
        "read_log": "(text)",
    },
    "house": {
        "Election": "(*, options, mixers, family, voters)",
        "replayed": "(text, *, options, mixers, family, voters)",
    },
    "reports": {
        "write_row": "(row)",
        "write_board": "(prime, table)",
        "read_board": "(mixers, text)",
        "missing": "(opened, receipts)",
    },
    "seats": {
        "by_averages": "(numbers, many, *, step=1)",
        "by_remainders": "(numbers, many)",
        "next_seat": "(numbers, seats, step)",
        "is_greater": "(number, divisor, other, other_divisor)",
    },
    "margins": {
        "strongest_other": "(numbers, option)",
        "leads": "(numbers, option)",
        "changes_to_lead": "(numbers, option)",
        "margin": "(numbers)",
    },
    "strengths": {
        "wins": "(rankings, options)",
        "strengths": "(rankings, options)",
        "strongest": "(rankings, options)",
        "chain_of": "(rankings, options, start, end)",
    },
}

# For each class with methods: the methods with their arguments.
METHODS = {
    ("letters", "Net"): {
        "deliver": "(self, place)",
        "table": "(self)",
    },
    ("house", "Election"): {
        "cast": "(self, voter, ranking)",
        "withdraw": "(self, voter)",
        "close": "(self)",
        "mix": "(self, numbers)",
        "undo": "(self)",
        "let": "(self, deed)",
        "votes": "(self)",
        "needed": "(self)",
        "opened": "(self)",
        "first_places": "(self)",
        "runoff": "(self)",
        "points": "(self)",
        "beats_all": "(self)",
        "seen_by": "(self, lot)",
        "log": "(self)",
    },
}

# For each class: how an object of it is made, and its fields.
FIELDS = [
    ("coins", "StageCoins", ([], [], []), {}, ["gather", "order", "spread"]),
    ("coins", "RunCoins", ([], []), {}, ["votes", "stages"]),
    ("stages", "StageRecord", ([0], [], [], []), {},
     ["holders", "gathered", "held", "order", "ordered", "spread", "table"]),
    ("runs", "RunRecord", (7, 3, [], []), {}, ["prime", "mixers", "family", "table", "stages", "opened"]),
    ("sheets", "Sheet", (7, 3, [], [], []), {}, ["prime", "mixers", "family", "votes", "numbers"]),
    ("letters", "Setting", (7, 3, [], 1), {}, ["prime", "mixers", "family", "rows"]),
    ("house", "Election", (), {"options": 3, "mixers": 3, "family": [], "voters": 2},
     ["options", "mixers", "family", "voters", "prime", "phase", "rankings", "deeds", "record"]),
]


class InterfaceTest(unittest.TestCase):

    def test_names_and_arguments(self):
        for name, things in INTERFACE.items():
            module = importlib.import_module("veilcount." + name)
            for thing, arguments in things.items():
                with self.subTest(module=name, thing=thing):
                    found = getattr(module, thing)
                    self.assertEqual(str(inspect.signature(found)), arguments)
                    self.assertEqual(found.__module__, "veilcount." + name)

    def test_methods_stand_in_their_classes(self):
        for (name, thing), methods in METHODS.items():
            body = vars(getattr(importlib.import_module("veilcount." + name), thing))
            for method, arguments in methods.items():
                with self.subTest(thing=thing, method=method):
                    self.assertIn(method, body)
                    self.assertEqual(str(inspect.signature(body[method])), arguments)

    def test_fields_are_set_when_an_object_is_created(self):
        for name, thing, given, named, fields in FIELDS:
            made = getattr(importlib.import_module("veilcount." + name), thing)(*given, **named)
            self.assertEqual(sorted(vars(made)), sorted(fields))

    def test_each_module_of_the_package_can_be_imported(self):
        folder = os.path.dirname(importlib.import_module("veilcount").__file__)
        names = sorted(file[:-3] for file in os.listdir(folder) if file.endswith(".py") and file != "__init__.py")
        self.assertEqual(names, sorted([*INTERFACE, "copies"]))
        for name in names:
            importlib.import_module("veilcount." + name)

    def test_veil_error_is_defined_in_its_file(self):
        self.assertEqual(importlib.import_module("veilcount.errors").VeilError.__module__, "veilcount.errors")


if __name__ == "__main__":
    unittest.main()
