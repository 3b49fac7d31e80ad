"""The section cyclebeat/errors.py of the interface."""

import unittest

from cyclebeat import errors

ATTRIBUTES = {
    "SyntaxFault": {"place": 4},
    "CheckFault": {"reason": "number", "place": 6},
    "InvalidCycle": {},
    "InvalidTime": {},
    "InvalidNumber": {},
    "TooLong": {},
    "InvalidWord": {},
    "InvalidEvents": {"place": 1},
    "InvalidCode": {"place": 2},
    "InvalidName": {},
    "UnknownName": {},
    "InvalidOperation": {"place": 3},
    "InvalidSession": {"place": 0},
}


class ErrorTest(unittest.TestCase):
    def test_the_base_class_is_a_value_error(self):
        self.assertEqual(errors.BeatError.__bases__, (ValueError,))

    def test_all_others_are_its_direct_subclasses(self):
        for name in ATTRIBUTES:
            self.assertEqual(getattr(errors, name).__bases__, (errors.BeatError,), name)

    def test_all_are_defined_in_this_file(self):
        for name in ["BeatError", *ATTRIBUTES]:
            self.assertEqual(getattr(errors, name).__module__, "cyclebeat.errors")
            self.assertEqual(getattr(errors, name).__name__, name)

    def test_attributes_are_set_when_an_error_is_created(self):
        for name, attributes in ATTRIBUTES.items():
            with self.subTest(name):
                for error in (getattr(errors, name)(**attributes), getattr(errors, name)(*attributes.values())):
                    self.assertEqual(vars(error), attributes)
                    self.assertIsInstance(str(error), str)


if __name__ == "__main__":
    unittest.main()
