"""Point 4: numbers of the language, and sums."""

import unittest

from passpapers.numbers import reckoned, wrapped

ENDS = (-32768, -32767, -300, -7, -2, -1, 0, 1, 2, 3, 7, 300, 32766, 32767)


class TestWrapped(unittest.TestCase):
    def test_the_language_s_own_numbers_stay(self):
        for number in ENDS:
            self.assertEqual(number, wrapped(number))

    def test_beyond_both_ends(self):
        for number, expected in (
                (32768, -32768), (32769, -32767), (-32769, 32767), (-32770, 32766), (65535, -1), (65536, 0),
                (65537, 1), (-65536, 0), (-65537, -1), (98303, 32767), (98304, -32768), (-98304, -32768)):
            self.assertEqual(expected, wrapped(number), number)

    def test_far_beyond(self):
        for number in (10 ** 30, -10 ** 30, 32767 * 32767, -32768 * 32768, 65536 ** 9 + 5):
            self.assertTrue(-32768 <= wrapped(number) <= 32767)
            self.assertEqual(0, (number - wrapped(number)) % 65536)
        self.assertEqual(5, wrapped(65536 ** 9 + 5))


class TestReckoned(unittest.TestCase):
    def check(self, op, *rows):
        for *args, expected in rows:
            with self.subTest(op=op, args=args):
                told = reckoned(op, args)
                self.assertEqual(expected, told)
                self.assertIs(int, type(told))

    def test_plus_minus_times(self):
        self.check("+", (2, 3, 5), (-2, -3, -5), (-2, 3, 1), (32767, 1, -32768), (-32768, -1, 32767),
                   (32767, 32767, -2), (-32768, -32768, 0))
        self.check("-", (2, 3, -1), (3, 2, 1), (-2, -3, 1), (-32768, 1, 32767), (32767, -1, -32768),
                   (0, -32768, -32768))
        self.check("*", (2, 3, 6), (-2, 3, -6), (-2, -3, 6), (256, 256, 0), (-32768, -1, -32768),
                   (-32768, -32768, 0), (32767, 32767, 1), (182, 182, -32412), (181, 181, 32761))

    def test_less_and_same(self):
        self.check("<", (1, 2, 1), (2, 1, 0), (2, 2, 0), (-1, 0, 1), (-32768, 32767, 1), (32767, -32768, 0))
        self.check("=", (1, 2, 0), (2, 2, 1), (-2, 2, 0), (0, 0, 1), (-32768, -32768, 1), (-32768, 32767, 0))

    def test_and_or_not(self):
        self.check("and", (0, 0, 0), (0, 1, 0), (1, 0, 0), (1, 1, 1), (5, -3, 1), (-32768, 32767, 1), (7, 0, 0))
        self.check("or", (0, 0, 0), (0, 1, 1), (1, 0, 1), (1, 1, 1), (5, -3, 1), (0, -7, 1), (-32768, 0, 1))
        self.check("not", (0, 1), (1, 0), (-1, 0), (5, 0), (-32768, 0), (32767, 0))

    def test_divided_rounds_down(self):
        self.check("/", (7, 2, 3), (-7, 2, -4), (7, -2, -4), (-7, -2, 3), (6, 3, 2), (-6, 3, -2), (0, 5, 0),
                   (0, -5, 0), (1, 2, 0), (-1, 2, -1), (1, -32768, -1), (-32768, -1, -32768), (-32768, 1, -32768),
                   (32767, -1, -32767), (-32768, 32767, -2), (32767, -32768, -1))
        self.check("rest", (7, 2, 1), (-7, 2, 1), (7, -2, -1), (-7, -2, -1), (6, 3, 0), (0, -5, 0), (1, 2, 1),
                   (-1, 2, 1), (1, -32768, -32767), (-32768, -1, 0), (-32768, 32767, 32766), (32767, -32768, -1))

    def test_quotient_and_rest_fit(self):
        for first in ENDS:
            for second in ENDS:
                if second != 0:
                    quotient = first // second
                    self.assertEqual(wrapped(quotient), reckoned("/", [first, second]))
                    self.assertEqual(first - quotient * second, reckoned("rest", [first, second]))

    def test_by_nought(self):
        for op in ("/", "rest"):
            for first in ENDS:
                self.assertIsNone(reckoned(op, [first, 0]))

    def test_what_is_handed_in_stays_and_the_same_is_told_again(self):
        args = [-32768, -1]
        for op in ("+", "-", "*", "<", "=", "and", "or", "/", "rest"):
            told = reckoned(op, args)
            self.assertEqual([-32768, -1], args)
            reckoned("/", [5, 0])
            self.assertEqual(told, reckoned(op, args))


if __name__ == "__main__":
    unittest.main()
