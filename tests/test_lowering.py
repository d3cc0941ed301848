"""Points 12, 13 and 3: what lower tells of trees, and that it runs as they do."""

import unittest

from growing import grown, inputs_of

from passpapers.looks import look_at_middle
from passpapers.lowered import lowered_wrong
from passpapers.lowering import lower
from passpapers.midrun import middle_run
from passpapers.treerun import tree_run
from passpapers.trees import tree_read

HELPERS = (
    "( record one x ) ( record four x y z w ) "
    "( fun say ( n number ) number ( out n ) ( give n ) ) "
    "( fun made ( n number ) four ( let f ( new four ) ) ( set f z n ) ( give f ) ) "
    "( fun both ( a truth b truth ) truth ( give ( and a ( not b ) ) ) ) "
    "( fun some ( k list p one ) list ( store k 0 ( get p x ) ) ( give k ) ) ")

MAINS = (
    "( give 0 )", "( fail 7 )", "( give n )", "( let a 1 ) ( put a ( + a n ) ) ( give a )", "( put n 5 ) ( give n )",
    "( if ( < n 2 ) ( ( give 1 ) ) ( ( fail 2 ) ) )", "( if yes ( ) ( ) ) ( give n )",
    "( if ( < n 2 ) ( ( give 1 ) ) ( ) ) ( give n )", "( if ( < n 2 ) ( ) ( ( give 1 ) ) ) ( give n )",
    "( let a n ) ( if ( < n 2 ) ( ( put a 1 ) ) ( ) ) ( give a )",
    "( let a n ) ( if ( < n 2 ) ( ( put a 1 ) ( put n 9 ) ) ( ( put a 2 ) ( let b a ) ( out b ) ) ) ( give ( + a n ) )",
    "( let a 0 ) ( if ( < n 2 ) ( ( put a n ) ) ( ( put a n ) ) ) ( give a )",
    "( let a 0 ) ( let b 1 ) ( if ( < n 2 ) ( ( put a b ) ) ( ( put b a ) ) ) ( give ( + ( * 10 a ) b ) )",
    "( let a 0 ) ( if ( < n 2 ) ( ( if ( < n 1 ) ( ( give 7 ) ) ( ( put a 3 ) ) ) ) ( ( let c 5 ) ( put a c ) ) ) ( give a )",
    "( if ( < n 2 ) ( ( let c 5 ) ( put n c ) ) ( ( fail 1 ) ) ) ( if ( < n 9 ) ( ) ( ( out 1 ) ) ) ( give n )",
    "( if ( < n 2 ) ( ( if ( < n 1 ) ( ( give 7 ) ) ( ( fail 3 ) ) ) ) ( ( put n 1 ) ) ) ( give n )",
    "( while ( < n 3 ) ( ( put n ( + n 1 ) ) ( out n ) ) ) ( give n )", "( while no ( ) ) ( give n )",
    "( while ( < n 3 ) ( ( give 1 ) ) ) ( give 0 )", "( while ( < n 3 ) ( ( out n ) ( fail 1 ) ) ) ( give 0 )",
    "( while ( < n 3 ) ( ( if ( = n 2 ) ( ( give 5 ) ) ( ) ) ( put n ( + n 1 ) ) ) ) ( give n )",
    "( while ( < n 3 ) ( ( if ( = n 2 ) ( ( give 5 ) ) ( ( fail 2 ) ) ) ) ) ( give n )",
    "( while ( < n 9 ) ( ( let m 0 ) ( while ( < m n ) ( ( put m ( + m 2 ) ) ( out m ) ) ) ( put n ( + m 1 ) ) ) ) ( give n )",
    "( let a 0 ) ( let b 1 ) ( while ( < a 50 ) ( ( let c b ) ( put b ( + a b ) ) ( put a c ) ) ) ( give b )",
    "( let k ( list 3 ) ) ( let m k ) ( while ( < n 3 ) ( ( store k n ( * n n ) ) ( put m ( list 1 ) ) ( put n ( + n 1 ) ) ) ) "
    "( out ( long m ) ) ( give ( at k 2 ) )",
    "( let p ( new one ) ) ( while ( < ( get p x ) 3 ) ( ( set p x ( + 1 ( get p x ) ) ) ) ) ( give ( get p x ) )",
    "( let p ( call made n ) ) ( if ( < n 3 ) ( ( put p ( call made 7 ) ) ) ( ) ) ( give ( get p z ) )",
    "( set ( call made n ) w 4 ) ( give ( get ( call made n ) z ) )", "( give ( - ( call say 1 ) ( call say 2 ) ) )",
    "( if ( call both ( < n 2 ) no ) ( ( out 1 ) ) ( ) ) ( give ( at ( call some ( list 2 ) ( new one ) ) 0 ) )",
    "( do n ) ( do ( list 2 ) ) ( do ( call say n ) ) ( do yes ) ( give n )", "( give ( / 5 n ) )", "( give ( rest 5 n ) )",
    "( give ( at ( list 3 ) n ) )", "( give ( long ( list n ) ) )", "( store ( list 2 ) n ( call say 3 ) ) ( give 0 )",
    "( if ( = ( < n 2 ) ( or ( < n 1 ) ( = n 5 ) ) ) ( ( give 1 ) ) ( ( give 2 ) ) )",
    "( give ( call main ( + n 1 ) ) )", "( if ( < n 1 ) ( ( give 0 ) ) ( ) ) ( give ( + n ( call main ( - n 1 ) ) ) )",
)


def tree_of(main):
    return tree_read("( program " + HELPERS + "( fun main ( n number ) number " + main + " ) )")


class TestLower(unittest.TestCase):
    def check(self, tree, inputs, bounds):
        program, paper = lower(tree)
        self.assertIsNone(look_at_middle(program))
        self.assertIsNone(lowered_wrong(tree, program, paper))
        for values in inputs:
            for bound in bounds:
                self.assertEqual(tree_run(tree, values, bound), middle_run(program, values, bound)[:3], (values, bound))

    def test_each_statement_and_each_e(self):
        for main in MAINS:
            with self.subTest(main=main):
                self.check(tree_of(main), [[number] for number in (-32768, -1, 0, 1, 2, 3, 5, 32767)], (0, 1, 2, 3, 7, 40))

    def test_grown_trees(self):
        for seed in range(300, 700):
            tree = grown(seed)
            with self.subTest(seed=seed):
                self.check(tree, [inputs_of(tree, seed + k) for k in range(3)], (0, 1, 4, 50))

    def test_deep_trees(self):
        e, statement = "n", ("give", "n")
        for k in range(33):
            e = ("+", e, 1)
        for k in range(17):
            statement = ("if", ("<", "n", k), (("put", "n", ("+", "n", 5)), statement), (("give", k),))
        for last in (("give", e), statement):
            self.check(("program", ("fun", "main", ("n", "number"), "number", last)), [[0], [5], [-40]], (0, 5))

    def test_deep_calls(self):
        tree = tree_of("( if ( < n 1 ) ( ( give 0 ) ) ( ) ) ( give ( + 1 ( call main ( - n 1 ) ) ) )")
        self.check(tree, [[4999], [5000], [5001], [-1]], (4999, 5000))
        self.assertEqual(("answer", 5000), middle_run(lower(tree)[0], [5000], 5000)[:2])

    def test_all_is_tuples_and_ints(self):
        def look(thing):
            self.assertIn(type(thing), (tuple, int, str, type(None)))
            for part in thing if type(thing) is tuple else ():
                look(part)
        for main in MAINS:
            look(lower(tree_of(main)))

    def test_functions_stay_in_order_by_name_and_kind(self):
        program, paper = lower(tree_of("( give 0 )"))
        self.assertEqual(["say", "made", "both", "some", "main"], [function[0] for function in program])
        self.assertEqual([0, 4, 0, -1, 0], [function[2] for function in program])
        self.assertEqual([[0], [0], [0, 0], [-1, 1], [0]], [[kind for name, kind in function[1]] for function in program])
        self.assertEqual("lowered", paper[0])
        self.assertEqual(5, len(paper[1]))

    def test_a_program_as_told(self):
        tree = tree_read("( program ( fun main ( n number ) number ( while ( < n 3 ) ( ( put n ( + n 1 ) ) ) ) ( give n ) ) )")
        (name, params, kind, blocks), = lower(tree)[0]
        self.assertEqual([(), ("tick", "num", "<"), ("num", "+"), ()], [tuple(row[1] for row in block[2]) for block in blocks])
        self.assertEqual(["jump", "branch", "jump", "give"], [block[3][0] for block in blocks])

    def test_yes_and_no_are_the_numbers_1_and_0(self):
        (name, params, kind, blocks), = lower(tree_read(
            "( program ( fun main ( ) number ( do yes ) ( do no ) ( do -7 ) ( give 3 ) ) )"))[0]
        self.assertEqual([("num", 1, ()), ("num", 0, ()), ("num", -7, ()), ("num", 3, ())], [row[1:] for row in blocks[0][2]])

    def test_params_only_for_what_changes(self):
        (name, params, kind, blocks), = lower(tree_read(
            "( program ( fun main ( n number m number ) number ( let a 1 ) ( while ( < n 3 ) ( ( if ( < m 1 ) "
            "( ( put n ( + n 1 ) ) ( let b 2 ) ) ( ( out m ) ) ) ) ) ( give a ) ) )"))[0]
        self.assertEqual([0, 1, 0, 0, 0, 1, 0], [len(block[1]) for block in blocks])

    def test_the_tree_stays_and_the_same_is_told_again(self):
        tree = tree_of(MAINS[20])
        first = lower(tree)
        lower(tree_of(MAINS[12]))
        self.assertEqual(first, lower(tree_of(MAINS[20])))
        self.assertEqual(tree, tree_of(MAINS[20]))


if __name__ == "__main__":
    unittest.main()
