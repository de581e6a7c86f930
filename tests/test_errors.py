"""Point 60: the errors."""

import unittest

from veilcount.errors import (BadCoins, BadLots, BadOrder, BadPrime, BadValue, LineError, PhaseError, TagError,
                              VeilError, VoteError)

# Each error, with values for its fields.
FIELDS = [
    (BadPrime, {"number": 4}),
    (BadValue, {"value": -1}),
    (BadOrder, {}),
    (BadCoins, {"due": 3, "given": 2}),
    (BadLots, {"first": 0, "second": None}),
    (PhaseError, {"phase": "voting"}),
    (VoteError, {"voter": 7}),
    (TagError, {"row": 5}),
    (LineError, {"line": 1}),
]


class ErrorsTest(unittest.TestCase):

    def test_veil_error_is_a_value_error(self):
        self.assertTrue(issubclass(VeilError, ValueError))
        self.assertIsInstance(VeilError("any"), ValueError)

    def test_every_error_is_a_veil_error(self):
        for kind, fields in FIELDS:
            error = kind(**fields)
            self.assertIsInstance(error, VeilError)
            self.assertIsInstance(error, ValueError)

    def test_no_error_is_an_instance_of_another_one(self):
        for kind, fields in FIELDS:
            for other, _ in FIELDS:
                self.assertEqual(isinstance(kind(**fields), other), kind is other)

    def test_fields_by_name_and_by_position(self):
        for kind, fields in FIELDS:
            for error in (kind(**fields), kind(*fields.values())):
                self.assertEqual(vars(error), fields)

    def test_a_field_may_be_a_number_of_any_size(self):
        great = 10 ** 5000
        self.assertEqual(BadValue(great).value, great)
        self.assertIsInstance(str(BadValue(great)), str)


if __name__ == "__main__":
    unittest.main()
