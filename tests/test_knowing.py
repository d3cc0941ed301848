"""Point 16: what know tells."""

import unittest

from drawing import drawn, inputs_for
from growing import grown
from spoiling import main_of
from test_lowering import MAINS, tree_of

from passpapers.facts import facts_wrong
from passpapers.knowing import know
from passpapers.learning import PATIENCE, Learner, go_through, learn_param
from passpapers.lowering import lower
from passpapers.middle import SAFE, SUMS, block_of, rows_by_name
from passpapers.midrun import middle_run


class TestKnow(unittest.TestCase):
    def check(self, program, seed=0):
        outcome, paper = know(program)
        self.assertIsNone(facts_wrong(program, outcome, paper))
        self.assertIsNone(facts_wrong(program, program, paper))
        for function in outcome:
            self.look_through(function)
        for k in range(2):
            inputs = inputs_for(program, seed + k)
            for bound in (0, 1, 7, 50):
                self.assertEqual(middle_run(program, inputs, bound), middle_run(outcome, inputs, bound))
        return outcome

    def look_through(self, function):
        """Nothing is left that the point says isn't there."""
        numbers = {name for name, (label, index, row) in rows_by_name(function).items() if row[1] == "num"}
        for label, params, rows, end in function[3]:
            for name, op, told, args in rows:
                self.assertFalse(op in SAFE and op != "num" and all(arg in numbers for arg in args), (function[0], label, name))
            if end[0] == "branch":
                self.assertNotIn(end[1], numbers)
            like = [(op, args) for name, op, told, args in rows if op == "long" or op in SUMS and op not in ("/", "rest")]
            self.assertEqual(len(like), len(set(like)), (function[0], label))

    def known(self, *blocks, params=((0, 0), (90, 0))):
        return self.check(main_of(*blocks, params=params))[0]

    def test_numbers_go_on(self):
        function = self.known((5, (), ((1, "num", 3, ()), (2, "copy", None, (1,)), (3, "+", None, (2, 1)), (4, "<", None, (1, 3))),
                               ("branch", 4, 6, (3,), 7, ())),
                              (6, ((8, 0),), ((9, "*", None, (8, 8)),), ("give", 9)), (7, (), (), ("give", 0)))
        self.assertEqual([("num", 3, ()), ("num", 3, ()), ("num", 6, ()), ("num", 1, ())], [row[1:] for row in block_of(function, 5)[2]])
        self.assertEqual(("jump", 6, (3,)), block_of(function, 5)[3])
        self.assertEqual(((9, "num", 36, ()),), block_of(function, 6)[2])

    def test_quotients(self):
        function = self.known((5, (), ((1, "num", 7, ()), (2, "num", 2, ()), (3, "num", 0, ()), (4, "/", None, (1, 2)), (6, "rest", None, (1, 2)),
                                       (7, "/", None, (0, 2)), (8, "/", None, (1, 3)), (9, "rest", None, (0, 3))), ("give", 4)))
        self.assertEqual([("num", 3, ()), ("num", 1, ()), ("/", None, (0, 2)), ("/", None, (1, 3)), ("rest", None, (0, 3))],
                         [row[1:] for row in block_of(function, 5)[2][3:]])

    def test_the_same_again(self):
        function = self.known((5, (), ((1, "+", None, (0, 90)), (2, "+", None, (0, 90)), (3, "+", None, (1, 2)), (4, "+", None, (2, 1)),
                                       (6, "/", None, (0, 90)), (7, "/", None, (0, 90)), (8, "list", None, (0,)), (9, "copy", None, (8,)),
                                       (10, "long", None, (8,)), (11, "long", None, (9,))), ("jump", 12, (4, 11))),
                              (12, ((13, 0), (14, 0)), ((15, "+", None, (0, 90)), (16, "-", None, (13, 15))), ("give", 16)))
        self.assertEqual(["+", "copy", "+", "copy", "/", "copy", "list", "copy", "long", "copy"], [row[1] for row in block_of(function, 5)[2]])
        self.assertEqual(("copy", None, (1,)), block_of(function, 12)[2][0][1:])

    def test_by_nought_and_one(self):
        function = self.known((5, (), ((1, "num", 0, ()), (2, "num", 1, ()), (3, "+", None, (0, 1)), (4, "*", None, (2, 3)), (6, "-", None, (4, 1)),
                                       (7, "/", None, (6, 2)), (8, "*", None, (7, 1)), (9, "-", None, (7, 0)), (10, "=", None, (7, 3)),
                                       (11, "or", None, (0, 2)), (12, "and", None, (0, 8))), ("give", 7)))
        self.assertEqual([("copy", None, (0,))] * 4 + [("num", 0, ()), ("num", 0, ()), ("num", 1, ()), ("num", 1, ()), ("num", 0, ())],
                         [row[1:] for row in block_of(function, 5)[2][2:]])
        self.assertEqual(("give", 0), block_of(function, 5)[3])

    def test_round_a_ring(self):
        function = self.known((5, (), ((1, "num", 4, ()),), ("jump", 6, (1, 0, 1))),
                              (6, ((2, 0), (3, 0), (4, 0)), ((7, "tick", None, ()), (8, "copy", None, (3,)), (9, "+", None, (2, 2)), (10, "+", None, (4, 2))),
                               ("branch", 90, 6, (2, 8, 10), 11, ())),
                              (11, (), ((12, "+", None, (9, 3)), (13, "-", None, (2, 4))), ("give", 13)))
        self.assertEqual([("copy", None, (0,)), ("num", 8, ()), ("+", None, (4, 2))], [row[1:] for row in block_of(function, 6)[2][1:]])
        self.assertEqual(("branch", 90, 6, (2, 0, 10), 11, ()), block_of(function, 6)[3])
        self.assertEqual(("+", None, (9, 0)), block_of(function, 11)[2][0][1:])

    def test_a_ring_within_a_ring(self):
        # At first 2 seems to be 4, and 4 with it; then 2 turns out to be another each time, and 4 is still the same as it.
        function = self.known((5, (), ((1, "num", 4, ()),), ("jump", 6, (1,))), (6, ((2, 0),), ((3, "tick", None, ()),), ("jump", 7, (2,))),
                              (7, ((4, 0),), ((8, "tick", None, ()), (9, "-", None, (4, 2)), (10, "+", None, (4, 0))), ("branch", 90, 7, (4,), 11, ())),
                              (11, (), (), ("branch", 0, 6, (10,), 12, ())), (12, (), (), ("give", 4)))
        self.assertEqual([("num", 0, ()), ("+", None, (2, 0))], [row[1:] for row in block_of(function, 7)[2][1:]])
        self.assertEqual(("give", 2), block_of(function, 12)[3])

    def test_params_that_are_handed_the_same(self):
        function = self.known((5, (), ((1, "copy", None, (0,)),), ("branch", 90, 6, (0, 1, 90), 6, (90, 90, 90))),
                              (6, ((2, 0), (3, 0), (4, 0)), ((7, "tick", None, ()), (8, "-", None, (2, 3)), (9, "-", None, (3, 4))), ("branch", 8, 6, (9, 9, 9), 10, ())),
                              (10, (), (), ("give", 3)))
        self.assertEqual([("num", 0, ()), ("-", None, (2, 4))], [row[1:] for row in block_of(function, 6)[2][1:]])
        self.assertEqual(("give", 2), block_of(function, 10)[3])

    def test_a_param_that_changes_late_is_taken_as_itself(self):
        learner = Learner(main_of((5, (), (), ("jump", 6, (0,))), (6, ((2, 0),), (), ("give", 2)))[0], {0: 0, 90: 0, 2: 0})
        self.assertTrue(learn_param(learner, 2, (4, None), PATIENCE))
        self.assertFalse(learn_param(learner, 2, (4, None), PATIENCE + 1))
        self.assertEqual((4, None), learner.fact_of(2))
        self.assertTrue(learn_param(learner, 2, (None, 0), PATIENCE + 1))
        self.assertEqual((None, None), learner.fact_of(2))
        self.assertFalse(go_through(learner, PATIENCE + 2))
        self.assertEqual((None, None), learner.fact_of(2))

    def test_params_that_only_seem_the_same(self):
        # Each changes only by what the other was: seen from the porch alone they are the same.
        function = self.known((5, (), ((1, "num", 4, ()), (14, "num", 5, ())), ("jump", 6, (1, 1, 0))),
                              (6, ((2, 0), (3, 0), (4, 0)), ((7, "tick", None, ()), (8, "=", None, (2, 3))), ("branch", 4, 6, (3, 14, 8), 11, ())),
                              (11, (), (), ("give", 8)))
        self.assertEqual(("=", None, (2, 3)), block_of(function, 6)[2][1][1:])

    def test_params_one_behind_another(self):
        # Each of many params gets what the next one was: it takes long until it is seen that none is known.
        many = 40
        params = tuple((100 + k, 0) for k in range(many))
        back = tuple(101 + k for k in range(many - 1))
        rows = ((1, "tick", None, ()),) + tuple((200 + k, "+", None, (100 + k, 99)) for k in range(many))
        for last, op in ((0, "+"), (99, "num")):
            function = self.known((5, (), ((99, "num", 4, ()),), ("jump", 6, (99,) * many)),
                                  (6, params, rows, ("branch", 0, 6, back + (last,), 7, ())), (7, (), (), ("give", 100)))
            self.assertEqual([op] * many, [row[1] for row in block_of(function, 6)[2][1:]])

    def test_blocks_to_which_no_way_leads(self):
        function = self.known(
                (5, (), ((1, "num", 4, ()),), ("give", 0)),
                (6, (), ((2, "copy", None, (3,)), (3, "+", None, (1, 1)), (4, "+", None, (4, 0)), (7, "+", None, (4, 0)), (8, "+", None, (7, 0)),
                         (9, "+", None, (7, 0))), ("branch", 2, 10, (9,), 10, (2,))), (10, ((11, 0),), (), ("give", 11)))
        self.assertEqual([("num", 8, ()), ("num", 8, ()), ("+", None, (4, 0)), ("copy", None, (4,)), ("+", None, (7, 0)), ("copy", None, (8,))],
                         [row[1:] for row in block_of(function, 6)[2]])
        self.assertEqual(("jump", 10, (9,)), block_of(function, 6)[3])

    def test_lowered_trees(self):
        for at, main in enumerate(MAINS):
            with self.subTest(main=main):
                self.check(lower(tree_of(main))[0], at)
        for seed in range(150):
            with self.subTest(seed=seed):
                self.check(self.check(lower(grown(seed))[0], seed), seed)

    def test_drawn_programs(self):
        for seed in range(400):
            with self.subTest(seed=seed):
                self.check(self.check(drawn(seed), seed), seed)

    def test_the_same_is_told_again(self):
        program = drawn(11)
        first = know(program)
        know(drawn(12))
        self.assertEqual(first, know(drawn(11)))
        self.assertEqual(drawn(11), program)


if __name__ == "__main__":
    unittest.main()
