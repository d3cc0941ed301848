"""Parts of the middle: blocks by their labels, and ways of ends."""

import unittest

from passpapers.middle import block_of, ways_of

FUNCTION = ("f", (), 0, ((7, (), (), ("jump", 3, (1, 2))), (3, ((1, 0), (2, 0)), (), ("give", 1)), (0, (), (), ("fail", 5))))


class TestMiddle(unittest.TestCase):
    def test_block_of(self):
        for block in FUNCTION[3]:
            self.assertEqual(block, block_of(FUNCTION, block[0]))

    def test_ways_of(self):
        self.assertEqual([(3, (1, 2))], ways_of(("jump", 3, (1, 2))))
        self.assertEqual([(3, (1, 2)), (0, ())], ways_of(("branch", 9, 3, (1, 2), 0, ())))
        self.assertEqual([(3, (1,)), (3, (2,))], ways_of(("branch", 9, 3, (1,), 3, (2,))))
        self.assertEqual([], ways_of(("give", 1)))
        self.assertEqual([], ways_of(("fail", 1)))

    def test_told_lists_are_the_asker_s_own(self):
        end = ("branch", 9, 3, (1, 2), 0, ())
        told = ways_of(end)
        told.append(5)
        self.assertEqual([(3, (1, 2)), (0, ())], ways_of(end))


if __name__ == "__main__":
    unittest.main()
