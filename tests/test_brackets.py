"""Point 5: things and the texts that write them."""

import unittest

from passpapers.brackets import brackets_read, brackets_shown
from passpapers.errors import NoText


def deep(many):
    return "( " * many + "a" + " )" * many


class TestBrackets(unittest.TestCase):
    def test_read_and_shown_again(self):
        for text, thing in (
                ("( a ( ) -5 )", ("a", (), -5)), ("( )", ()), ("a", "a"), ("0", 0), ("-1", -1), ("32767", 32767),
                ("-32768", -32768), ("( ( ( ) ) ( ) )", (((),), ())), ("( + 1 ( * x 2 ) )", ("+", 1, ("*", "x", 2))),
                ("!~", "!~"), ("( yes \"a\" [ { ' )", ("yes", '"a"', "[", "{", "'")), ("10", 10)):
            with self.subTest(text=text):
                self.assertEqual(thing, brackets_read(text))
                self.assertEqual(text, brackets_shown(thing))

    def test_numbers_are_ints(self):
        self.assertIs(int, type(brackets_read("1")))
        self.assertEqual([str, int], [type(part) for part in brackets_read("( 1a 1 )")])

    def test_pieces_that_are_nearly_numbers_stand_for_themselves(self):
        for piece in ("-0", "007", "00", "01", "-01", "32768", "-32769", "65536", "-", "--1", "+1", "1-", "1.0", "1e3",
                      "0x1", "1_0", "9" * 40, "-" + "9" * 40, "9" * 7000, "a1", "1a", "-a", "100000", "032767"):
            with self.subTest(piece=piece[:50]):
                self.assertEqual(piece, brackets_read(piece))
                self.assertEqual((piece,), brackets_read("( " + piece + " )"))
                self.assertEqual(piece, brackets_shown(piece))

    def test_what_writes_no_thing_is_refused(self):
        for text in (
                "", " ", "  ", " a", "a ", "a  b", "( a  b )", "(  )", "()", "(a )", "( a)", "( a", "a )", ")", "(",
                "( ) )", "( ( )", "a b", "( ) a", "a ( )", "( a ) ( b )", "a(b", "a)b", "( a ) ", " ( a )", "((",
                ") (", "( )b", "( a\tb )", "a\nb", "\n", "( \u00e4 )", "\u0661", "\x7f", "( a\x00 )"):
            with self.subTest(text=text):
                with self.assertRaises(NoText):
                    brackets_read(text)

    def test_forty_deep_and_no_deeper(self):
        thing = "a"
        for k in range(40):
            thing = (thing,)
        self.assertEqual(thing, brackets_read(deep(40)))
        self.assertEqual(deep(40), brackets_shown(thing))
        self.assertEqual(((), thing[0]), brackets_read("( ( ) " + deep(39) + " )"))
        for text in (deep(41), deep(42), "( " * 41 + ") " * 40 + ")", "( ( ) " + deep(40) + " )", deep(1000)):
            with self.assertRaises(NoText):
                brackets_read(text)

    def test_wide_is_not_deep(self):
        text = "( " + "( ) " * 1500 + ")"
        self.assertEqual(((),) * 1500, brackets_read(text))
        self.assertEqual(text, brackets_shown(brackets_read(text)))

    def test_the_same_is_told_again(self):
        first = brackets_read("( a ( b ) )")
        with self.assertRaises(NoText):
            brackets_read("( a ( b )")
        self.assertEqual(first, brackets_read("( a ( b ) )"))


if __name__ == "__main__":
    unittest.main()
