"""The error classes."""

import unittest

from passpapers.errors import NoMachine, NoMiddle, NoPass, NoText, NoTree, PassError


class TestErrors(unittest.TestCase):
    def test_each_stands_straight_under_pass_error(self):
        self.assertEqual((ValueError,), PassError.__bases__)
        for error in (NoText, NoTree, NoMiddle, NoMachine, NoPass):
            self.assertEqual((PassError,), error.__bases__)

    def test_place_is_set_on_each_object(self):
        for error in (NoMiddle, NoMachine):
            self.assertEqual(("", -1, -1), error("why").place)
            self.assertEqual(("main", 2, 0), error("why", ("main", 2, 0)).place)


if __name__ == "__main__":
    unittest.main()
