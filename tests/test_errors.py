"""Point 2: the refusals."""

import unittest

from conekin import errors

UNDER = [
    "NoBasis", "NoForm", "TooGreat", "NoWorth", "NoPrime", "NoLine", "NoStep", "NoText", "NoRow", "NoName",
]


class Refusals(unittest.TestCase):
    def test_base_stands_straight_under_value_error(self):
        self.assertEqual(errors.KinError.__bases__, (ValueError,))

    def test_all_others_stand_straight_under_the_base(self):
        for name in UNDER:
            with self.subTest(name=name):
                self.assertEqual(getattr(errors, name).__bases__, (errors.KinError,))

    def test_there_are_no_more_and_each_is_one_of_its_own(self):
        told = [name for name, thing in vars(errors).items() if isinstance(thing, type)]
        self.assertEqual(sorted(told), sorted(UNDER + ["KinError"]))
        self.assertEqual(len({getattr(errors, name) for name in told}), 11)
        for name in told:
            self.assertEqual(getattr(errors, name).__name__, name)


if __name__ == "__main__":
    unittest.main()
