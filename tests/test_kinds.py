"""Points 6 and 7: what is a tree, and what isn't."""

import unittest

from growing import grown

from passpapers.errors import NoText, NoTree
from passpapers.kinds import look_at_tree
from passpapers.trees import tree_read, tree_shown

RECORDS = "( record point x y ) ( record one x ) "


def whole(main, others=""):
    """A text with records, helpers and such a main (of x and y, numbers)."""
    helpers = ("( fun twice ( a number ) number ( give ( + a a ) ) ) "
               "( fun made ( ) point ( give ( new point ) ) ) "
               "( fun both ( a truth b truth ) truth ( give ( and a b ) ) ) "
               "( fun some ( k list p point ) list ( give k ) ) ")
    return "( program " + RECORDS + helpers + others + "( fun main ( x number y number ) number " + main + " ) )"


def thing(main=("give", 0), *others):
    return ("program",) + others + (("fun", "main", (), "number") + ((main,) if main else ()),)


GIVE = ("give", 0)
FUN = ("fun", "main", (), "number", GIVE)


class TestRightTrees(unittest.TestCase):
    def test_statements(self):
        for main in (
                "( give 0 )", "( fail 7 )", "( fail -32768 )", "( let a 1 ) ( put a ( + a 1 ) ) ( give a )",
                "( put x 5 ) ( give x )", "( if yes ( ( give 1 ) ) ( ( fail 2 ) ) )",
                "( if yes ( ) ( ) ) ( give 0 )", "( if ( < x y ) ( ( give 1 ) ) ( ) ) ( give 0 )",
                "( if no ( ) ( ( fail 1 ) ) ) ( give 0 )",
                "( if yes ( ( if no ( ( give 1 ) ) ( ( give 2 ) ) ) ) ( ( out 1 ) ( fail 2 ) ) )",
                "( while ( < x 3 ) ( ( put x ( + x 1 ) ) ) ) ( give x )", "( while yes ( ( give 1 ) ) ) ( give 0 )",
                "( while no ( ) ) ( give 0 )", "( out x ) ( give 0 )", "( let p ( new point ) ) ( set p y 4 ) ( give 0 )",
                "( set ( call made ) x ( get ( call made ) y ) ) ( give 0 )",
                "( let k ( list 3 ) ) ( store k 0 ( at k 1 ) ) ( give ( long k ) )", "( do 1 ) ( do yes ) ( give 0 )",
                "( do ( new one ) ) ( do ( list 2 ) ) ( do x ) ( give 0 )", "( do ( call made ) ) ( give 0 )"):
            with self.subTest(main=main):
                tree = tree_read(whole(main))
                self.assertIsNone(look_at_tree(tree))
                self.assertEqual(whole(main), tree_shown(tree))

    def test_each_e(self):
        for kind, e in (
                ("number", "5"), ("number", "x"), ("number", "( + x 1 )"), ("number", "( - x 1 )"),
                ("number", "( * x 1 )"), ("number", "( / x 1 )"), ("number", "( rest x 1 )"), ("truth", "yes"),
                ("truth", "no"), ("truth", "( < x 1 )"), ("truth", "( = x 1 )"), ("truth", "( = yes no )"),
                ("truth", "( and yes no )"), ("truth", "( or yes no )"), ("truth", "( not yes )"),
                ("number", "( call twice x )"), ("point", "( call made )"), ("truth", "( call both yes no )"),
                ("list", "( call some ( list 1 ) ( new point ) )"), ("point", "( new point )"), ("one", "( new one )"),
                ("number", "( get ( new point ) y )"), ("number", "( get ( new one ) x )"), ("list", "( list x )"),
                ("number", "( long ( list 1 ) )"), ("number", "( at ( list 1 ) 0 )"), ("number", "( call main 1 2 )")):
            other = f"( fun other ( x number ) {kind} ( let v {e} ) ( put v {e} ) ( give v ) ) "
            with self.subTest(e=e):
                self.assertIsNone(look_at_tree(tree_read(whole("( give 0 )", other))))
                for wrong in {"number", "truth", "list", "point", "one"} - {kind}:
                    with self.assertRaises(NoTree):
                        tree_read(whole("( give 0 )", f"( fun other ( x number ) {wrong} ( give {e} ) ) "))

    def test_names_that_are_free(self):
        for text in (
                "( program ( fun main ( ) number ( give 0 ) ) )",
                "( program ( record main main ) ( fun main ( main number ) number ( give main ) ) )",
                "( program ( record fun number truth list ) ( fun main ( ) number ( give ( get ( new fun ) list ) ) ) )",
                "( program ( fun main ( number number ) number ( let let number ) ( give let ) ) )",
                "( program ( fun call ( ) number ( give 1 ) ) ( fun main ( ) number ( give ( call call ) ) ) )",
                "( program ( record a x ) ( record b x ) ( fun main ( ) number ( give 0 ) ) )",
                "( program ( record abcdefgh a b c d ) ( fun main ( a number b number c number d number ) number "
                "( let abcdefgh 0 ) ( give 0 ) ) )",
                "( program ( fun main ( ) number ( let f 0 ) ( give ( call f ) ) ) ( fun f ( ) number ( give 1 ) ) )"):
            with self.subTest(text=text):
                self.assertIsNone(look_at_tree(tree_read(text)))

    def test_grown_trees(self):
        for seed in range(200):
            tree = grown(seed)
            self.assertIsNone(look_at_tree(tree))
            self.assertEqual(tree, tree_read(tree_shown(tree)))

    def test_deep_trees(self):
        e = "yes"
        for k in range(36):
            e = ("not", e)
        tree = thing(("if", e, (GIVE,), (GIVE,)))
        self.assertIsNone(look_at_tree(tree))
        self.assertEqual(tree, tree_read(tree_shown(tree)))
        statement = GIVE
        for k in range(18):
            statement = ("if", "yes", (statement,), (GIVE,))
        self.assertEqual(thing(statement), tree_read(tree_shown(thing(statement))))


class TestWrongForms(unittest.TestCase):
    def refuse(self, *things):
        for wrong in things:
            with self.subTest(wrong=wrong):
                with self.assertRaises(NoTree):
                    look_at_tree(wrong)

    def test_no_program(self):
        self.refuse(5, "program", (), ("program",), (FUN,), ("programs", FUN), ("program", "main"), ("program", ()),
                    ("program", 5, FUN), ("program", FUN, 5), ("program", (), FUN), (("program",), FUN), "a", True,
                    ("program", ("other",), FUN), ("program", ("record", "a", "x")))

    def test_records(self):
        for record in (
                ("record",), ("record", "a"), ("record", "a", "b", "c", "d", "e", "f"), ("record", "a", "x", "x"),
                ("record", "number", "x"), ("record", "truth", "x"), ("record", "list", "x"), ("record", "yes", "x"),
                ("record", "no", "x"), ("record", "A", "x"), ("record", "abcdefghi", "x"), ("record", 5, "x"),
                ("record", "a1", "x"), ("record", ("a",), "x"), ("record", "a", "yes"), ("record", "a", "no"),
                ("record", "a", "X"), ("record", "a", 5), ("record", "a", "abcdefghi"), ("record", "a", ("x",)),
                ("record", "a", ()), ("record", (), "x"), ("record", "a-b", "x")):
            self.refuse(("program", record, FUN))
        self.refuse(("program", ("record", "a", "x"), ("record", "a", "y"), FUN), ("program", FUN, ("record", "a", "x")),
                    ("program", ("record", "a", "x"), FUN, ("record", "b", "x")))

    def test_functions(self):
        for fun in (
                ("fun",), ("fun", "f"), ("fun", "f", ()), ("fun", "f", (), "number"), ("fun", "yes", (), "number", GIVE),
                ("fun", "no", (), "number", GIVE), ("fun", "F", (), "number", GIVE), ("fun", 5, (), "number", GIVE),
                ("fun", "abcdefghi", (), "number", GIVE), ("fun", "f", "number", GIVE), ("fun", "f", 5, "number", GIVE),
                ("fun", "f", ("a",), "number", GIVE), ("fun", "f", ("a", "number", "b"), "number", GIVE),
                ("fun", "f", ("a", "other"), "number", GIVE), ("fun", "f", ("a", 5), "number", GIVE),
                ("fun", "f", ("yes", "number"), "number", GIVE), ("fun", "f", ("A", "number"), "number", GIVE),
                ("fun", "f", (5, "number"), "number", GIVE), ("fun", "f", ("a", "number", "a", "truth"), "number", GIVE),
                ("fun", "f", ("a", "number") * 5, "number", GIVE), ("fun", "f", (("a", "number"),), "number", GIVE),
                ("fun", "f", tuple(w for v in "abcde" for w in (v, "number")), "number", GIVE),
                ("fun", "f", (), "other", GIVE), ("fun", "f", (), 5, GIVE), ("fun", "f", (), (), GIVE),
                ("fun", "f", (), GIVE), ("fun", "f", ((), "number"), "number", GIVE), ("fun", "f", (), "other", ("fail", 1)),
                ("fun", "f", (), (), ("fail", 1)), ("fun", "f", ("a", "number", "A", "number"), "number", GIVE),
                ("fun", "f", ("a", "number", "b", "other"), "number", GIVE),
                ("fun", "f", ("a", "number", "b", "number", "yes", "number"), "number", GIVE)):
            self.refuse(("program", fun, FUN), ("program", FUN, fun))
        self.refuse(("program", FUN, FUN), ("program", ("fun", "f", (), "number", GIVE)),
                    ("program", ("fun", "main", ("a", "truth"), "number", GIVE)),
                    ("program", ("fun", "main", ("a", "list"), "number", GIVE)),
                    ("program", ("record", "r", "x"), ("fun", "main", ("a", "r"), "number", GIVE)),
                    ("program", ("fun", "main", (), "truth", ("give", "yes"))),
                    ("program", ("fun", "main", (), "list", ("give", ("list", 1)))))

    def test_statements(self):
        for statement in (
                5, "give", (), ("other", 1), (5, 1), (("give",), 1), ("give",), ("give", 1, 2), ("out",), ("out", 1, 2),
                ("let", "a"), ("let", "a", 1, 2), ("let", 5, 1), ("let", "yes", 1), ("let", "no", 1), ("let", "A", 1),
                ("let", "abcdefghi", 1), ("let", ("a",), 1), ("let", (), 1), ("put", "a"), ("put", "a", 1),
                ("put", 5, 1), ("put", "yes", 1), ("put", ("a",), 1), ("if", "yes", ()), ("if", "yes", (), (), ()),
                ("if", "yes", GIVE, ()), ("if", "yes", (), GIVE), ("if", "yes", 5, ()), ("if", "yes", (), "a"),
                ("if", "yes", (5,), ()), ("while", "yes"), ("while", "yes", (), ()), ("while", "yes", GIVE),
                ("while", "yes", 5), ("while", "yes", ("a",)), ("fail",), ("fail", 1, 2), ("fail", "a"), ("fail", ()),
                ("fail", 32768), ("fail", -32769), ("fail", True), ("do",), ("do", 1, 2), ("set", ("new", "r"), "x"),
                ("set", ("new", "r"), "x", 1, 2), ("store", ("list", 1), 0), ("store", ("list", 1), 0, 1, 2)):
            self.refuse(("program", ("record", "r", "x"), ("fun", "main", (), "number", statement, GIVE)))
            self.refuse(("program", ("record", "r", "x"), ("fun", "main", (), "number", statement)))

    def test_es(self):
        for e in (
                (), 32768, -32769, True, "A", "a", "5", "-0", "32768", (5,), ("other", 1), (("+",), 1, 2), ("+", 1),
                ("+", 1, 2, 3), ("+",), ("not",), ("not", "yes", "no"), ("=", 1), ("=", 1, 1, 1), ("=",), ("call",),
                ("call", "f"), ("call", 5), ("call", ("main",)), ("call", "main", 1), ("new",), ("new", "f"),
                ("new", "number"), ("new", "r", 1), ("new", ("r",)), ("get", ("new", "r")), ("get", ("new", "r"), "y"),
                ("get", ("new", "r"), "x", 1), ("get", ("new", "r"), 0), ("get", ("new", "r"), ("x",)), ("get", 1, "x"),
                ("get", "r", "x"), ("list",), ("list", 1, 2), ("long",), ("long", ("list", 1), 1), ("at", ("list", 1)),
                ("at", ("list", 1), 1, 1), ("out", 1), ("let", "a", 1), ("give", 1), ("num", 1), ("copy", 1),
                ("tick",), ("store", ("list", 1), 0, 1), ("set", ("new", "r"), "x", 1)):
            self.refuse(("program", ("record", "r", "x"), ("fun", "main", (), "number", ("do", e), GIVE)))


class TestWrongKinds(unittest.TestCase):
    def refuse(self, *mains):
        for main in mains:
            with self.subTest(main=main):
                with self.assertRaises(NoTree):
                    tree_read(whole(main))

    def test_sums(self):
        for op in ("+", "-", "*", "/", "rest", "<"):
            for pair in ("yes 1", "1 yes", "( list 1 ) 1", "1 ( new one )", "yes no"):
                self.refuse(f"( do ( {op} {pair} ) ) ( give 0 )")
        for op in ("and", "or"):
            for pair in ("1 yes", "yes 1", "1 0", "( list 1 ) yes", "yes ( new one )"):
                self.refuse(f"( do ( {op} {pair} ) ) ( give 0 )")
        for pair in ("yes 1", "1 yes", "( list 1 ) ( list 1 )", "( new one ) ( new one )", "( list 1 ) 1"):
            self.refuse(f"( do ( = {pair} ) ) ( give 0 )")
        self.refuse("( do ( not 1 ) ) ( give 0 )", "( do ( not ( list 1 ) ) ) ( give 0 )")

    def test_results_of_sums(self):
        self.refuse("( give ( < 1 2 ) )", "( give ( = 1 2 ) )", "( give ( and yes no ) )", "( give ( not yes ) )",
                    "( if ( + 1 2 ) ( ) ( ) ) ( give 0 )", "( if 1 ( ) ( ) ) ( give 0 )", "( while 1 ( ) ) ( give 0 )",
                    "( while ( list 1 ) ( ) ) ( give 0 )", "( out yes ) ( give 0 )", "( out ( list 1 ) ) ( give 0 )",
                    "( out ( new one ) ) ( give 0 )", "( give yes )", "( give ( list 1 ) )", "( give ( new one ) )")

    def test_calls(self):
        self.refuse("( give ( call twice ) )", "( give ( call twice 1 2 ) )", "( give ( call twice yes ) )",
                    "( give ( call made ) )", "( do ( call both yes 1 ) ) ( give 0 )", "( give ( call none ) )",
                    "( do ( call some ( list 1 ) ( new one ) ) ) ( give 0 )", "( give ( call main 1 ) )",
                    "( do ( call some ( new point ) ( list 1 ) ) ) ( give 0 )", "( give ( call point ) )")

    def test_records_and_lists(self):
        self.refuse("( give ( get ( new one ) y ) )", "( give ( get x x ) )", "( give ( get ( list 1 ) x ) )",
                    "( set ( new one ) y 1 ) ( give 0 )", "( set ( new one ) x yes ) ( give 0 )",
                    "( set x x 1 ) ( give 0 )", "( set ( new point ) x ( new one ) ) ( give 0 )",
                    "( do ( list yes ) ) ( give 0 )", "( give ( long x ) )", "( give ( long ( new one ) ) )",
                    "( give ( at x 0 ) )", "( give ( at ( list 1 ) yes ) )", "( give ( at ( new one ) 0 ) )",
                    "( store x 0 1 ) ( give 0 )", "( store ( list 1 ) yes 1 ) ( give 0 )",
                    "( store ( list 1 ) 0 yes ) ( give 0 )", "( store ( list 1 ) 0 ( list 1 ) ) ( give 0 )",
                    "( do ( new none ) ) ( give 0 )")

    def test_variables(self):
        self.refuse("( give z )", "( let a a ) ( give 0 )", "( let a 1 ) ( let a 2 ) ( give 0 )",
                    "( let x 1 ) ( give 0 )", "( let y 1 ) ( give 0 )", "( if yes ( ( let a 1 ) ) ( ( let a 2 ) ) ) ( give 0 )",
                    "( if yes ( ( let a 1 ) ) ( ) ) ( give a )", "( if yes ( ( let a 1 ) ) ( ( out a ) ) ) ( give 0 )",
                    "( while yes ( ( let a 1 ) ) ) ( give a )", "( if yes ( ( let a 1 ) ) ( ) ) ( let a 2 ) ( give a )",
                    "( while yes ( ( let a 1 ) ) ) ( let a 2 ) ( give a )", "( give a ) ( let a 1 )",
                    "( if ( = a 1 ) ( ( let a 1 ) ) ( ) ) ( give 0 )", "( while yes ( ( out a ) ( let a 1 ) ) ) ( give 0 )",
                    "( let a 1 ) ( put a yes ) ( give 0 )", "( let a yes ) ( put a 1 ) ( give 0 )",
                    "( put x yes ) ( give 0 )", "( put a 1 ) ( give 0 )", "( let a ( new one ) ) ( put a ( new point ) ) ( give 0 )",
                    "( if yes ( ( let a 1 ) ) ( ) ) ( put a 2 ) ( give 0 )", "( put a 1 ) ( let a 1 ) ( give 0 )")
        with self.assertRaises(NoTree):
            tree_read(whole("( give 0 )", "( fun f ( q number ) number ( give x ) ) "))

    def test_variables_within_their_statements(self):
        for main in ("( if yes ( ( let a 1 ) ( out a ) ( if no ( ( out a ) ( put a 2 ) ) ( ) ) ) ( ) ) ( give 0 )",
                     "( let a 1 ) ( while yes ( ( put a ( + a 1 ) ) ( if no ( ( give a ) ) ( ) ) ) ) ( give a )"):
            self.assertIsNone(look_at_tree(tree_read(whole(main))))
        other = "( fun f ( x truth ) truth ( let a x ) ( give a ) ) "
        self.assertIsNone(look_at_tree(tree_read(whole("( let a 1 ) ( give a )", other))))

    def test_ends(self):
        self.refuse("( out 1 )", "( let a 1 )", "( give 0 ) ( give 0 )", "( fail 1 ) ( give 0 )",
                    "( give 0 ) ( out 1 )", "( if yes ( ( give 1 ) ) ( ) )", "( if yes ( ) ( ( give 1 ) ) )",
                    "( if yes ( ) ( ) )", "( if yes ( ( give 1 ) ) ( ( fail 1 ) ) ) ( give 0 )",
                    "( while yes ( ( give 1 ) ) )", "( while yes ( ( give 1 ) ( out 1 ) ) ) ( give 0 )",
                    "( if yes ( ( fail 1 ) ( out 1 ) ) ( ) ) ( give 0 )", "( if yes ( ( out 1 ) ) ( ( give 1 ) ) )",
                    "( if yes ( ) ( ( give 1 ) ( give 1 ) ) ) ( give 0 )",
                    "( while yes ( ( if no ( ( give 1 ) ) ( ( give 2 ) ) ) ( out 1 ) ) ) ( give 0 )")

    def test_a_give_has_its_function_s_kind(self):
        for kind, wrong in (("truth", "1"), ("point", "( new one )"), ("list", "0"), ("number", "no")):
            with self.assertRaises(NoTree):
                tree_read(whole("( give 0 )", f"( fun f ( ) {kind} ( if yes ( ( give {wrong} ) ) ( ) ) ( fail 1 ) ) "))

    def test_a_text_that_writes_no_thing_or_no_tree(self):
        for text in ("", "( program", "( program ) )", "( program  )", "( " * 41 + ") " * 40 + ")"):
            with self.assertRaises(NoText):
                tree_read(text)
        for text in ("program", "( program )", "5", "( )"):
            with self.assertRaises(NoTree):
                tree_read(text)

    def test_the_same_is_told_again(self):
        right, wrong = tree_read(whole("( let a 1 ) ( give a )")), thing(("give", "a"))
        for k in range(2):
            self.assertIsNone(look_at_tree(right))
            with self.assertRaises(NoTree):
                look_at_tree(wrong)


if __name__ == "__main__":
    unittest.main()
