"""Point 22: what join_blocks, thread, turn_rounds and unroll tell."""

import unittest

from drawing import drawn, inputs_for
from growing import grown
from spoiling import main_of
from test_lowering import MAINS, tree_of
from test_moved import shaped

from passpapers.flow import arrivals_of, labels_met
from passpapers.joining import join_blocks
from passpapers.knowing import know
from passpapers.lowering import lower
from passpapers.middle import block_of, param_names
from passpapers.midrun import middle_run
from passpapers.rounds import rounds_of
from passpapers.threading import thread
from passpapers.turning import turn_rounds
from passpapers.unrolling import unroll
from passpapers.ways import ways_wrong


def rows_in(function):
    return sum(len(block[2]) for block in function[3])


def many_programs():
    for at, main in enumerate(MAINS):
        yield lower(tree_of(main))[0], at
    for seed in range(100):
        yield lower(grown(seed))[0], seed
    for seed in range(300):
        yield drawn(seed, 12 if seed % 2 else 6), seed


class Laying(unittest.TestCase):
    def let_by(self, program, outcome, paper, seed=0):
        self.assertIsNone(ways_wrong(program, outcome, paper))
        for k in range(2):
            inputs = inputs_for(program, seed + k)
            for bound in (0, 1, 2, 7, 40):
                old, new = middle_run(program, inputs, bound), middle_run(outcome, inputs, bound)
                self.assertEqual(old[:3], new[:3])
                self.assertLessEqual(new[3], old[3])

    def paths(self, paper):
        return [path for label, path, pairs in paper[1][0]]

    def stays(self, program, outcome, paper):
        """The program stays as it is, unreached blocks too, and is let by."""
        self.assertEqual(program, outcome)
        self.let_by(program, outcome, paper)


class TestJoin(Laying):
    def check(self, program, seed=0):
        outcome, paper = join_blocks(program)
        self.let_by(program, outcome, paper, seed)
        for function in outcome:
            met = labels_met(function)
            for label, comings in arrivals_of(function).items():
                leading = [block_of(function, other)[3][0] for other, args in comings if other in met]
                self.assertNotEqual(["jump"], leading, (function[0], label))
        return outcome, paper

    def test_joined(self):
        program = main_of((5, (), ((1, "num", 2, ()),), ("jump", 6, (1, 0))), (6, ((2, 0), (3, 0)), ((4, "out", None, (2,)),), ("jump", 7, (4, 3))),
                          (7, ((8, 0), (9, 0)), ((10, "+", None, (8, 2)),), ("give", 10)))
        outcome, paper = self.check(program)
        self.assertEqual(main_of((5, (), ((1, "num", 2, ()), (4, "out", None, (1,)), (10, "+", None, (4, 1))), ("give", 10))), outcome)
        self.assertEqual([(5, 6, 7)], self.paths(paper))

    def test_not_joined(self):
        for ends in (([1, 2], [], []), ([1, 2], [3], [3], []), ([1, 1], []), ([1], [1, 2], []), ([],)):
            program = (shaped(*ends),)
            self.stays(program, *join_blocks(program))

    def test_behind_a_ring(self):
        # 1 is led to by two jumps, 2 by a branch, 4 by one jump alone.
        outcome, paper = self.check((shaped([1], [2, 3], [1], [4], []),))
        self.assertEqual([(0,), (1,), (2,), (3, 4)], self.paths(paper))

    def test_ends_of_blocks_to_which_no_way_leads(self):
        outcome, paper = self.check((shaped([1], [2], [], [1], [4]),))
        self.assertEqual([(0, 1, 2)], self.paths(paper))

    def test_a_block_used_behind(self):
        # Names of joined blocks go on to blocks behind, and round a ring.
        program = main_of((5, (), ((1, "num", 2, ()),), ("jump", 6, (1,))), (6, ((2, 0),), ((3, "+", None, (2, 0)),), ("jump", 7, (2,))),
                          (7, ((4, 0),), ((8, "tick", None, ()), (9, "+", None, (4, 3))), ("branch", 90, 10, (), 11, ())),
                          (10, (), (), ("jump", 12, (9, 2))), (12, ((13, 0), (14, 0)), ((15, "*", None, (13, 14)),), ("jump", 7, (15,))), (11, (), (), ("give", 9)))
        outcome, paper = self.check(program)
        self.assertEqual([(5, 6), (7,), (10, 12), (11,)], self.paths(paper))

    def test_many(self):
        for program, seed in many_programs():
            with self.subTest(seed=seed):
                self.check(self.check(program, seed)[0], seed)

    def test_many_blocks(self):
        ends = [[k + 1] for k in range(59)] + [[]]
        outcome, paper = self.check((shaped(*ends),))
        self.assertEqual(1, len(outcome[0][3]))


class TestThread(Laying):
    def check(self, program, seed=0):
        outcome, paper = thread(program)
        self.let_by(program, outcome, paper, seed)
        for function, told in zip(program, paper[1]):
            for label, path, pairs in told:
                self.assertFalse(self.goes_on(function, path), (function[0], path))
        return outcome, paper

    def goes_on(self, function, path):
        label, params, rows, end = block_of(function, path[-1])
        if end[0] != "jump" or end[1] in path:
            return False
        led = block_of(function, end[1])
        if led[3][0] == "jump":
            return not led[2]
        handed = dict(zip(param_names(led[1]), end[2]))
        return led[3][0] == "branch" and handed.get(led[3][1]) in [row[0] for row in rows if row[1] == "num"]

    def test_past_blocks_without_rows(self):
        program = main_of((5, (), (), ("branch", 0, 6, (), 7, ())), (6, (), ((1, "out", None, (0,)),), ("jump", 8, (1,))), (7, (), (), ("jump", 8, (90,))),
                          (8, ((2, 0),), (), ("jump", 9, (2, 90))), (9, ((3, 0), (4, 0)), (), ("jump", 10, (4, 3))), (10, ((11, 0), (12, 0)), ((13, "-", None, (11, 12)),), ("give", 13)))
        outcome, paper = self.check(program)
        self.assertEqual([(5,), (6, 8, 9), (7, 8, 9), (10,)], self.paths(paper))

    def test_by_a_number(self):
        def program(first, second, *rows):
            return main_of((5, (), (), ("branch", 90, 6, (), 7, ())), (6, (), ((1, "num", first, ()),), ("jump", 8, (0, 1))), (7, (), ((2, "num", second, ()),), ("jump", 8, (90, 2))),
                           (8, ((3, 0), (4, 0)), rows, ("branch", 4, 9, (), 10, (3,))), (9, (), ((11, "out", None, (3,)),), ("give", 4)), (10, ((12, 0),), ((13, "not", None, (12,)),), ("give", 13)))
        for rows in ((), ((20, "out", None, (4,)),)):
            for first, second in ((0, 0), (1, 1), (0, -5), (7, 0)):
                outcome, paper = self.check(program(first, second, *rows))
                self.assertEqual([(5,), (6, 8, 9 if first else 10), (7, 8, 9 if second else 10)], self.paths(paper))

    def test_by_no_number_of_the_block_itself(self):
        program = main_of((5, (), ((1, "num", 1, ()), (2, "num", 0, ())), ("branch", 90, 6, (), 7, ())), (6, (), ((14, "out", None, (0,)),), ("jump", 8, (0, 1))),
                          (7, (), ((15, "copy", None, (2,)),), ("jump", 8, (90, 15))), (8, ((3, 0), (4, 0)), (), ("branch", 4, 9, (), 10, (3,))), (9, (), (), ("give", 3)),
                          (10, ((12, 0),), (), ("give", 12)))
        self.stays(program, *thread(program))

    def test_round_a_ring(self):
        # The path ends where it would come to a block that is in it.
        program = main_of((5, (), ((1, "num", 1, ()),), ("jump", 6, (1,))), (6, ((2, 0),), ((3, "tick", None, ()), (4, "num", 1, ())), ("branch", 2, 7, (), 8, ())),
                          (7, (), ((9, "num", 1, ()),), ("jump", 6, (9,))), (8, (), (), ("give", 4)))
        paths = self.paths(self.check(program)[1])
        self.assertIn((5, 6, 7), paths)
        self.assertIn((7, 6), paths)
        program = main_of((5, (), (), ("jump", 6, ())), (6, (), ((1, "tick", None, ()), (2, "num", 1, ())), ("jump", 7, (2,))), (7, ((3, 0),), (), ("branch", 3, 6, (), 8, ())),
                          (8, (), (), ("give", 0)))
        self.assertIn((6, 7), self.paths(self.check(program)[1]))
        ring = main_of((5, (), (), ("jump", 6, ())), (6, (), ((1, "tick", None, ()),), ("jump", 7, ())), (7, (), (), ("jump", 8, ())), (8, (), (), ("jump", 6, ())))
        self.assertEqual([(5,), (6, 7, 8)], self.paths(self.check(ring)[1]))
        # A block that leads to itself.
        alone = main_of((5, (), ((1, "num", 1, ()),), ("jump", 6, (1,))), (6, ((2, 0),), ((3, "tick", None, ()),), ("branch", 2, 6, (0,), 7, ())), (7, (), (), ("give", 2)))
        self.assertEqual([(5, 6), (6,), (7,)], self.paths(self.check(alone)[1]))

    def test_both_ways_to_one_block(self):
        for number in (0, 3):
            program = main_of((5, (), ((1, "num", number, ()),), ("jump", 6, (1,))), (6, ((2, 0),), (), ("branch", 2, 7, (0,), 7, (90,))), (7, ((3, 0),), ((4, "out", None, (3,)),), ("give", 3)))
            outcome, paper = self.check(program)
            self.assertEqual([(5, 6, 7)], self.paths(paper))

    def test_many(self):
        for program, seed in many_programs():
            with self.subTest(seed=seed):
                self.check(self.check(program, seed)[0], seed)

    def test_too_many_rows(self):
        # Each of the ways goes past the same block of a hundred rows.
        def program(many):
            rows = tuple((100 + k, "out", None, (0,)) for k in range(many))
            ways = [(10 + k, (), ((30 + k, "num", 1, ()),), ("jump", 20, (30 + k,))) for k in range(4)]
            return main_of((0, (), (), ("branch", 0, 1, (), 2, ())), (1, (), (), ("branch", 90, 10, (), 11, ())), (2, (), (), ("branch", 90, 12, (), 13, ())), *ways,
                           (20, ((50, 0),), rows, ("branch", 50, 21, (), 22, ())), (21, (), (), ("give", 0)), (22, (), (), ("give", 90)))
        outcome, paper = self.check(program(99))
        self.assertEqual(400, rows_in(outcome[0]))
        self.stays(program(100), *thread(program(100)))


    def test_too_many_rows_behind_a_branch(self):
        # Each of the ways goes on to the same block of many rows: where that is too much, the paths end with the branch.
        def program(many):
            rows = tuple((100 + k, "out", None, (0,)) for k in range(many))
            ways = [(10 + k, (), ((30 + k, "num", 1, ()),), ("jump", 20, (30 + k,))) for k in range(4)]
            return main_of((0, (), (), ("branch", 0, 1, (), 2, ())), (1, (), (), ("branch", 90, 10, (), 11, ())), (2, (), (), ("branch", 90, 12, (), 13, ())), *ways,
                           (20, ((50, 0),), ((51, "out", None, (50,)),), ("branch", 50, 21, (), 22, ())), (21, (), rows, ("give", 0)), (22, (), (), ("give", 90)))
        for many, path in ((98, (10, 20, 21)), (99, (10, 20)), (300, (10, 20))):
            outcome, paper = self.check(program(many))
            self.assertEqual(path, self.paths(paper)[3])
        self.stays(program(393), *thread(program(393)))


class TestTurn(Laying):
    def check(self, program, seed=0):
        outcome, paper = turn_rounds(program)
        self.let_by(program, outcome, paper, seed)
        for function, told in zip(program, paper[1]):
            beside = [pair for label, path, pairs in told for pair in zip(path, path[1:])]
            for part in rounds_of(function):
                label, params, rows, end = block_of(function, part.head)
                if len(rows) <= 8 and end[0] == "branch":
                    self.assertIn((part.porch, part.head), beside, function[0])
        return outcome, paper

    def test_turned(self):
        tree = tree_of("( let a 0 ) ( while ( < n 5 ) ( ( put n ( + n 1 ) ) ( put a ( + a n ) ) ) ) ( give a )")
        program = lower(tree)[0]
        outcome, paper = self.check(program)
        self.assertIn((0, 1), [path for label, path, pairs in paper[1][-1]])
        for number in (0, 3, 5, 9):
            for bound in (0, 1, 2, 3, 9):
                old, new = middle_run(program, [number], bound), middle_run(outcome, [number], bound)
                self.assertEqual(old[:3], new[:3])
                self.assertEqual(old[3] - 1, new[3])

    def test_rounds_within_rounds(self):
        outcome, paper = self.check((shaped([1], [2, 6], [3], [4, 5], [3], [1], []),))
        self.assertEqual([(0, 1), (1,), (2, 3), (3,), (4,), (5,), (6,)], self.paths(paper))

    def test_a_head_alone(self):
        outcome, paper = self.check((shaped([1], [1, 2], []),))
        self.assertEqual([(0, 1), (1,), (2,)], self.paths(paper))

    def test_both_ways_back(self):
        self.check((shaped([1], [1, 1]),))
        self.check((shaped([1], [2, 2], [1]),))

    def test_no_round_or_no_branch(self):
        for ends in (([1], []), ([1, 2], [1, 2], []), ([1], [2], [1, 3], []), ([1], [1])):
            program = (shaped(*ends),)
            self.stays(program, *turn_rounds(program))

    def test_eight_rows_and_nine(self):
        def program(many):
            rows = ((100, "tick", None, ()),) + tuple((k, "out", None, (0,)) for k in range(101, 100 + many))
            return main_of((0, (), (), ("jump", 1, ())), (1, (), rows, ("branch", 0, 1, (), 2, ())), (2, (), (), ("give", 0)))
        for many in (1, 7, 8):
            self.assertEqual((0, 1), self.paths(self.check(program(many))[1])[0])
        self.stays(program(9), *turn_rounds(program(9)))

    def test_blocks_to_which_no_way_leads(self):
        outcome, paper = self.check((shaped([1], [2, 3], [1], [], [1], [4]),))
        self.assertEqual([(0, 1), (1,), (2,), (3,)], self.paths(paper))

    def test_many(self):
        for program, seed in many_programs():
            with self.subTest(seed=seed):
                self.check(self.check(program, seed)[0], seed)

    def test_too_many_rows(self):
        def program(many):
            rows = tuple((100 + k, "out", None, (0,)) for k in range(many))
            return main_of((0, (), rows, ("jump", 1, ())), (1, (), ((10, "tick", None, ()),), ("branch", 0, 1, (), 2, ())), (2, (), (), ("give", 0)))
        self.check(program(398))
        self.stays(program(399), *turn_rounds(program(399)))


class TestUnroll(Laying):
    def check(self, program, times, seed=0):
        outcome, paper = unroll(program, times)
        self.let_by(program, outcome, paper, seed)
        for function, new, told in zip(program, outcome, paper[1]):
            rounds = rounds_of(function)
            if function == new and rounds:
                self.assertTrue(times * len(function[3]) > 60 or times * rows_in(function) > 400)
            for part in rounds if function != new else []:
                if not any(other.head in part.inside for other in rounds if other.head != part.head):
                    self.assertGreaterEqual(len([path for label, path, pairs in told if path[0] == part.head]), times)
        return outcome, paper

    def test_unrolled(self):
        tree = tree_of("( let a 0 ) ( while ( < n 5 ) ( ( put n ( + n 1 ) ) ( put a ( + a n ) ) ) ) ( give a )")
        program = lower(tree)[0]
        for times in (2, 3, 4):
            outcome, paper = self.check(program, times)
            self.assertEqual(2 + 2 * times, len(outcome[-1][3]))
            for number in range(-3, 9):
                for bound in (0, 1, 2, 3, 5, 20):
                    self.assertEqual(middle_run(program, [number], bound), middle_run(outcome, [number], bound))

    def test_rounds_within_rounds(self):
        for times in (2, 3, 4):
            paths = self.paths(self.check((shaped([1], [2, 6], [3], [4, 5], [3], [1], []),), times)[1])
            self.assertEqual([1, 1, 1, times, times, 1, 1], [paths.count((label,)) for label in range(7)])

    def test_two_rounds(self):
        paths = self.paths(self.check((shaped([1], [1, 2], [3], [3, 4], []),), 3)[1])
        self.assertEqual([1, 3, 1, 3, 1], [paths.count((label,)) for label in range(5)])

    def test_a_head_alone_and_both_ways_back(self):
        for ends in (([1], [1, 2], []), ([1], [1]), ([1], [1, 1]), ([1], [2, 2], [1]), ([1], [2, 2], [1, 1]), ([1], [2, 3], [3, 1], [1, 4], [])):
            for times in (2, 3, 4):
                self.check((shaped(*ends),), times)

    def test_a_ring_without_a_porch_within_a_round(self):
        # 2 and 3 lead round between them, and into both leads a way: they are no round, so theirs is the innermost.
        for times in (2, 4):
            paths = self.paths(self.check((shaped([1], [2, 3], [3, 4], [2, 1], []),), times)[1])
            self.assertEqual([1, times, times, times], [paths.count((label,)) for label in range(4)])

    def test_no_round(self):
        for ends in (([1], []), ([1, 2], [1, 2], [])):
            program = (shaped(*ends),)
            self.stays(program, *unroll(program, 2))

    def test_as_many_blocks_as_before(self):
        # Two blocks are left out, and two are copies.
        program = (shaped([1], [1, 2], [], [4], [1]),)
        outcome, paper = self.check(program, 3)
        self.assertEqual([(0,), (1,), (1,), (1,), (2,)], self.paths(paper))

    def test_many(self):
        for program, seed in many_programs():
            with self.subTest(seed=seed):
                self.check(self.check(program, 2 + seed % 3, seed)[0], 2, seed)
                self.check(know(program)[0], 2 + seed % 3, seed)

    def test_too_many_blocks(self):
        def ring(ahead, many):
            """So many blocks ahead of a ring of so many, and one behind."""
            return (shaped(*[[k + 1] for k in range(ahead + many - 1)], [ahead, ahead + many], []),)
        for ahead, many, times in ((1, 29, 2), (2, 19, 3), (3, 14, 4), (59 - 2 * 20, 20, 2)):
            outcome, paper = self.check(ring(ahead, many), times)
            self.assertEqual(60, len(outcome[0][3]))
            for more in (ring(ahead + 1, many), ring(ahead, many + 1)):
                self.stays(more, *unroll(more, times))

    def test_too_many_rows(self):
        def ring(ahead, many):
            """So many rows ahead of a ring of so many."""
            rows = ((100, "tick", None, ()),) + tuple((k, "out", None, (0,)) for k in range(101, 100 + many))
            first = tuple((1000 + k, "out", None, (0,)) for k in range(ahead))
            return main_of((0, (), first, ("jump", 1, ())), (1, (), rows, ("branch", 0, 1, (), 2, ())), (2, (), (), ("give", 0)))
        for ahead, many, times in ((0, 200, 2), (1, 133, 3), (0, 100, 4), (200, 50, 4)):
            outcome, paper = self.check(ring(ahead, many), times)
            self.assertEqual(400, rows_in(outcome[0]))
            for more in (ring(ahead + 1, many), ring(ahead, many + 1)):
                self.stays(more, *unroll(more, times))

    def test_first_copies_keep_their_names(self):
        program = lower(tree_of("( let a 0 ) ( while ( < n 5 ) ( ( put n ( + n 1 ) ) ( put a ( + a n ) ) ) ) ( give a )"))[0]
        old, new = program[-1], unroll(program, 3)[0][-1]
        self.assertEqual([block[0] for block in old[3]], [block[0] for block in new[3] if block[0] < len(old[3])])
        names = [row[0] for block in old[3] for row in block[2]]
        copies = [row[0] for block in new[3] for row in block[2]]
        self.assertLess(set(names), set(copies))
        for block in old[3]:
            self.assertEqual([row[0] for row in block[2]], [row[0] for row in block_of(new, block[0])[2]])

    def test_params_where_names_come_together_alone(self):
        # 0 and 2 are the same all the way round; 4 changes.
        program = main_of((5, (), ((1, "num", 2, ()), (2, "num", 3, ())), ("jump", 6, (1, 0))),
                          (6, ((4, 0), (7, 0)), ((8, "tick", None, ()), (9, "+", None, (4, 2))), ("branch", 9, 10, (), 11, ())),
                          (10, (), ((12, "+", None, (9, 7)),), ("jump", 6, (12, 7))), (11, (), ((13, "-", None, (4, 7)),), ("give", 13)))
        outcome, paper = self.check(program, 2)
        self.assertEqual([(5,), (6,), (6,), (10,), (10,), (11,)], self.paths(paper))
        # The second copy of the head is led to by one way alone; the block behind by both copies.
        self.assertEqual([0, 1, 0, 0, 0, 1], [len(block[1]) for block in outcome[0][3]])

    def test_one_function_too_large_does_not_hold_up_the_others(self):
        large = shaped([1], *[[k + 1] if k < 40 else [1, 41] for k in range(1, 41)], [])
        program = (("aid",) + large[1:], shaped([1], [1, 2], []))
        outcome, paper = self.check(program, 2)
        self.assertEqual([program[0], 4], [outcome[0], len(outcome[1][3])])


class TestAsked(Laying):
    def test_the_same_is_told_again(self):
        for action in (join_blocks, thread, turn_rounds, lambda program: unroll(program, 3)):
            program = drawn(41)
            first = action(program)
            action(drawn(42))
            self.assertEqual(first, action(drawn(41)))
            self.assertEqual(drawn(41), program)


if __name__ == "__main__":
    unittest.main()
