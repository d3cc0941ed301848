"""Point 8: trees run."""

import unittest

import oracle
from growing import grown, inputs_of

from passpapers.treerun import tree_run
from passpapers.trees import tree_read

HELPERS = (
    "( record point x y ) "
    "( fun say ( n number ) number ( out n ) ( give n ) ) "
    "( fun true ( n number ) truth ( out n ) ( give yes ) ) "
    "( fun false ( n number ) truth ( out n ) ( give no ) ) "
    "( fun box ( n number ) list ( out n ) ( give ( list 2 ) ) ) "
    "( fun fill ( p point k list ) number ( set p x 7 ) ( store k 1 8 ) ( give 0 ) ) "
    "( fun self ( p point ) point ( give p ) ) "
    "( fun down ( n number ) number ( if ( = n 0 ) ( ( give 0 ) ) ( ) ) ( give ( + 1 ( call down ( - n 1 ) ) ) ) ) "
    "( fun dead ( n number ) number ( if ( = n 0 ) ( ( fail 3 ) ) ( ) ) ( give ( call dead ( - n 1 ) ) ) ) ")


def tree_of(main, variables="n number"):
    return tree_read("( program " + HELPERS + "( fun main ( " + (variables + " " if variables else "") + ") number "
                     + main + " ) )")


def run(main, number=0, bound=100):
    return tree_run(tree_of(main), [number], bound)


class TestEnds(unittest.TestCase):
    def test_answers(self):
        self.assertEqual(("answer", 5, ()), run("( give 5 )"))
        self.assertEqual(("answer", -32768, ()), run("( give ( + n 1 ) )", 32767))
        self.assertEqual(("answer", 4, (1, -2, 1)), run("( out 1 ) ( out -2 ) ( out 1 ) ( give 4 )"))
        self.assertEqual(("answer", 12, ()), tree_run(tree_of("( give ( + a ( * b c ) ) )",
                                                              "a number b number c number"), [2, 2, 5], 0))

    def test_every_sum(self):
        for e, number in (
                ("( - 3 5 )", -2), ("( * -3 5 )", -15), ("( / -7 2 )", -4), ("( rest -7 2 )", 1), ("( * 256 256 )", 0),
                ("( / -32768 -1 )", -32768), ("( - -32768 1 )", 32767)):
            self.assertEqual(("answer", number, ()), run(f"( give {e} )"))
        for e, truth in (
                ("( < 1 2 )", 1), ("( < 2 2 )", 0), ("( = 2 2 )", 1), ("( = yes yes )", 1), ("( = yes no )", 0),
                ("( and yes no )", 0), ("( and yes yes )", 1), ("( or no no )", 0), ("( or no yes )", 1), ("yes", 1),
                ("( not no )", 1), ("( not yes )", 0), ("no", 0),
                ("( = yes ( < 1 2 ) )", 1), ("( = ( not yes ) no )", 1), ("( = yes ( or no yes ) )", 1),
                ("( = ( < 2 1 ) yes )", 0)):
            self.assertEqual(("answer", truth, ()), run(f"( if {e} ( ( give 1 ) ) ( ( give 0 ) ) )"), e)

    def test_faults(self):
        for main, fault in (
                ("( out ( / n 0 ) )", "nought"), ("( out ( rest n 0 ) )", "nought"), ("( do ( list -1 ) )", "size"),
                ("( do ( list 17 ) )", "size"), ("( do ( at ( list 2 ) 2 ) )", "range"), ("( do ( list 32767 ) )", "size"),
                ("( do ( at ( list 2 ) -1 ) )", "range"), ("( do ( at ( list 0 ) 0 ) )", "range"),
                ("( store ( list 2 ) 2 5 )", "range"), ("( store ( list 2 ) -1 5 )", "range"),
                ("( if yes ( ( fail 7 ) ) ( ) )", "fail 7"), ("( if yes ( ( fail -32768 ) ) ( ) )", "fail -32768"),
                ("( if yes ( ( fail 0 ) ) ( ) )", "fail 0"), ("( do ( call dead 3 ) )", "fail 3")):
            with self.subTest(main=main):
                self.assertEqual(("fault", fault, (9,)), run("( out 9 ) " + main + " ( out 8 ) ( give 0 )"))

    def test_sizes_and_places_that_are_right(self):
        self.assertEqual(("answer", 0, ()), run("( give ( long ( list 0 ) ) )"))
        self.assertEqual(("answer", 16, ()), run("( give ( long ( list 16 ) ) )"))
        self.assertEqual(("answer", 0, ()), run("( give ( at ( list 16 ) 15 ) )"))
        self.assertEqual(("answer", 6, ()), run("( let k ( list 3 ) ) ( store k 2 6 ) ( store k 0 1 ) ( give ( at k 2 ) )"))

    def test_new_is_noughts(self):
        self.assertEqual(("answer", 0, (0, 5)), run(
            "( let p ( new point ) ) ( out ( get p y ) ) ( set p y 5 ) ( out ( get p y ) ) "
            "( put p ( new point ) ) ( give ( get p y ) )"))

    def test_a_variable_let_in_a_round_is_let_anew(self):
        self.assertEqual(("answer", 3, (0, 0, 0)), run(
            "( while ( < n 3 ) ( ( let k ( list 1 ) ) ( out ( at k 0 ) ) ( store k 0 9 ) ( put n ( + n 1 ) ) ) ) ( give n )"))


class TestOrder(unittest.TestCase):
    def test_all_is_done_from_the_left_to_the_right(self):
        for e in ("( + ( call say 1 ) ( call say 2 ) )", "( rest ( call say 1 ) ( call say 2 ) )",
                  "( at ( call box 1 ) ( - ( call say 2 ) 1 ) )"):
            self.assertEqual((1, 2), run(f"( do {e} ) ( give 0 )")[2])
        for e in ("( and ( call false 1 ) ( call true 2 ) )", "( or ( call true 1 ) ( call false 2 ) )",
                  "( and ( call true 1 ) ( call true 2 ) )", "( = ( call false 1 ) ( call true 2 ) )"):
            self.assertEqual((1, 2), run(f"( do {e} ) ( give 0 )")[2])
        self.assertEqual((1, 2, 3), run("( store ( call box 1 ) ( - ( call say 2 ) 1 ) ( call say 3 ) ) ( give 0 )")[2])

    def test_a_fault_behind_what_is_ahead(self):
        self.assertEqual(("fault", "nought", (1,)), run("( give ( + ( call say 1 ) ( + ( / 1 0 ) ( call say 2 ) ) ) )"))
        self.assertEqual(("fault", "range", (5, 6)),
                         run("( store ( list 1 ) ( call say 5 ) ( call say 6 ) ) ( give 0 )"))
        self.assertEqual(("fault", "nought", (3, 0)), run("( give ( / ( call say 3 ) ( call say 0 ) ) )"))
        self.assertEqual(("fault", "nought", ()), run("( let k ( list ( / 1 0 ) ) ) ( give ( long k ) )"))
        self.assertEqual(("fault", "size", ()), run("( store ( list 17 ) 0 ( / 1 0 ) ) ( give 0 )"))
        self.assertEqual(("fault", "nought", ()), run("( store ( list 1 ) 5 ( / 1 0 ) ) ( give 0 )"))


class TestHandedOn(unittest.TestCase):
    def test_records_and_lists_are_handed_on_as_themselves(self):
        self.assertEqual(("answer", 15, ()), run(
            "( let p ( new point ) ) ( let k ( list 2 ) ) ( do ( call fill p k ) ) ( give ( + ( get p x ) ( at k 1 ) ) )"))
        self.assertEqual(("answer", 4, ()), run(
            "( let p ( new point ) ) ( let q p ) ( set q y 4 ) ( give ( get p y ) )"))
        self.assertEqual(("answer", 6, ()), run(
            "( let p ( new point ) ) ( set ( call self p ) x 6 ) ( give ( get p x ) )"))
        self.assertEqual(("answer", 3, ()), run(
            "( let k ( list 1 ) ) ( let m ( list 1 ) ) ( put m k ) ( store m 0 3 ) ( give ( at k 0 ) )"))

    def test_variables_are_each_call_s_own(self):
        self.assertEqual(("answer", 4, ()), tree_run(tree_read(
            "( program ( fun f ( n number ) number ( put n 9 ) ( let m 9 ) ( give 1 ) ) ( fun main ( n number ) number "
            "( let m 2 ) ( give ( + m ( + ( call f n ) n ) ) ) ) )"), [1], 5))


class TestTicks(unittest.TestCase):
    def check(self, main, number, ticks, end):
        """The run wants just so many ticks."""
        tree = tree_of(main)
        self.assertEqual(end, tree_run(tree, [number], ticks)[0])
        self.assertEqual(end, tree_run(tree, [number], ticks + 1)[0])
        if ticks > 0:
            self.assertEqual("more", tree_run(tree, [number], ticks - 1)[0])
            self.assertIsNone(tree_run(tree, [number], ticks - 1)[1])

    def test_bound_nought(self):
        self.assertEqual(("answer", 1, (2,)), run("( out 2 ) ( give 1 )", 0, 0))
        self.assertEqual(("more", None, (2,)), run("( out 2 ) ( while no ( ) ) ( give 1 )", 0, 0))
        self.assertEqual(("more", None, ()), run("( give ( call say 1 ) )", 0, 0))

    def test_ticks_are_counted(self):
        self.check("( give 1 )", 0, 0, "answer")
        self.check("( while no ( ( out 1 ) ) ) ( give 1 )", 0, 1, "answer")
        self.check("( while ( < n 5 ) ( ( put n ( + n 1 ) ) ) ) ( give n )", 0, 6, "answer")
        self.check("( while yes ( ( give 1 ) ) ) ( give 1 )", 0, 1, "answer")
        self.check("( while yes ( ( fail 1 ) ) ) ( give 1 )", 0, 1, "fault")
        self.check("( give ( call say ( call say 1 ) ) )", 0, 2, "answer")
        self.check("( give ( call down n ) )", 20, 21, "answer")
        self.check("( while ( = 0 ( call down 1 ) ) ( ) ) ( give 1 )", 0, 3, "answer")
        self.check("( while ( < n 3 ) ( ( while ( call true 1 ) ( ( put n 3 ) ( out ( / 1 0 ) ) ) ) ) ) ( give 1 )", 0, 3,
                   "fault")

    def test_a_tick_is_counted_ahead_of_the_condition_and_behind_the_arguments(self):
        self.assertEqual(("more", None, ()), run("( while ( call true 5 ) ( ) ) ( give 1 )", 0, 0))
        self.assertEqual(("more", None, ()), run("( while ( call true 5 ) ( ) ) ( give 1 )", 0, 1))
        self.assertEqual(("more", None, (5,)), run("( while ( call true 5 ) ( ) ) ( give 1 )", 0, 2))
        self.assertEqual(("more", None, (5,)), run("( give ( call say ( call say 5 ) ) )", 0, 1))
        self.assertEqual(("fault", "nought", ()), run("( give ( call say ( / 1 0 ) ) )", 0, 0))

    def test_rounds_without_end(self):
        for bound in (0, 1, 7, 5000):
            told = run("( while yes ( ( out n ) ( put n ( + n 1 ) ) ) ) ( give 0 )", 0, bound)
            self.assertEqual(("more", None, tuple(range(bound))), told)

    def test_calls_some_thousand_deep(self):
        tree = tree_of("( give ( call down n ) )")
        self.assertEqual(("answer", 4999, ()), tree_run(tree, [4999], 5000))
        self.assertEqual(("more", None, ()), tree_run(tree, [5000], 5000))
        self.assertEqual(("more", None, ()), tree_run(tree, [-1], 5000))
        self.assertEqual(("fault", "fail 3", ()), tree_run(tree_of("( give ( call dead n ) )"), [4000], 5000))


class TestGeneral(unittest.TestCase):
    def test_as_the_oracle(self):
        for seed in range(300):
            tree = grown(seed)
            for bound in (0, 1, 2, 5, 40):
                inputs = inputs_of(tree, seed + bound)
                with self.subTest(seed=seed, bound=bound):
                    self.assertEqual(oracle.told(tree, inputs, bound), tree_run(tree, inputs, bound))

    def test_inputs_stay_and_the_same_is_told_again(self):
        tree = tree_of("( let k ( list 2 ) ) ( store k 0 n ) ( put n 5 ) ( out ( at k 0 ) ) ( give ( at k 1 ) )")
        inputs = [3]
        first = tree_run(tree, inputs, 10)
        self.assertEqual(("answer", 0, (3,)), first)
        self.assertEqual([3], inputs)
        tree_run(tree_of("( while yes ( ( out 1 ) ) ) ( give 0 )"), [1], 3)
        inputs[0] = 4
        self.assertEqual(("answer", 0, (3,)), first)
        self.assertEqual(first, tree_run(tree, [3], 10))

    def test_what_is_told_is_tuples_and_ints(self):
        told = run("( out ( at ( list 2 ) 1 ) ) ( if ( < 1 2 ) ( ( out 3 ) ) ( ) ) ( give ( + n 1 ) )", 4)
        self.assertIs(tuple, type(told))
        self.assertIs(tuple, type(told[2]))
        self.assertEqual([int, int, int], [type(number) for number in told[2] + (told[1],)])


if __name__ == "__main__":
    unittest.main()
