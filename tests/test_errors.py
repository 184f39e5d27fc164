"""The errors of the package and their fields (point 1, the interface)."""

import unittest

from resetcalls import errors

FIELDS = {
    "BadHouse": {"part": "maps"}, "BadHall": {}, "BadLot": {}, "BadRow": {"index": 3},
    "BadNumber": {}, "BadNet": {}, "BadMap": {}, "NotTurns": {}, "BadText": {},
    "BadLine": {"line": 2, "word": 5}, "BadStep": {}, "TooMany": {"most": 4096},
}


class Errors(unittest.TestCase):
    def test_base_is_a_value_error(self):
        self.assertEqual(errors.CallError.__bases__, (ValueError,))

    def test_each_is_a_direct_subclass(self):
        for name in FIELDS:
            with self.subTest(name=name):
                self.assertEqual(getattr(errors, name).__bases__, (errors.CallError,))

    def test_there_are_no_others(self):
        names = [name for name, value in vars(errors).items() if isinstance(value, type)]
        self.assertEqual(sorted(names), sorted([*FIELDS, "CallError"]))

    def test_fields_by_position_and_by_name(self):
        for name, fields in FIELDS.items():
            error = getattr(errors, name)
            with self.subTest(name=name):
                self.assertEqual(vars(error(*fields.values())), fields)
                self.assertEqual(vars(error(**fields)), fields)

    def test_fields_keep_what_they_are_given(self):
        self.assertIsNone(errors.BadRow(None).index)
        self.assertEqual(errors.BadRow(0).index, 0)
        self.assertEqual(errors.BadHouse("whole").part, "whole")

    def test_each_says_something(self):
        for name, fields in FIELDS.items():
            if fields:
                with self.subTest(name=name):
                    self.assertNotEqual(str(getattr(errors, name)(**fields)), "")


if __name__ == "__main__":
    unittest.main()
