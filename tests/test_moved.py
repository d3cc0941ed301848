"""Points 12, 19 and 20: rows moved, rounds, and rows moved out of these."""

import unittest

from drawing import drawn, inputs_for
from growing import grown
from spoiling import NO_PAPERS, Checking, is_looked_at, main_of, with_block
from test_lowering import MAINS, tree_of

from passpapers.knowing import know
from passpapers.lowering import lower
from passpapers.middle import SAFE, block_of, names_given
from passpapers.midrun import middle_run
from passpapers.moved import moved_wrong
from passpapers.moving import move_out
from passpapers.rounds import rounds_of

PROGRAM = main_of(
    (5, (), ((1, "num", 3, ()), (2, "out", None, (1,)), (3, "+", None, (0, 90)), (4, "list", None, (1,))), ("jump", 6, (0,))),
    (6, ((20, 0),), ((21, "tick", None, ()), (22, "num", 1, ()), (23, "-", None, (20, 22)), (24, "long", None, (4,)), (25, "copy", None, (3,)),
                     (26, "out", None, (25,)), (27, "/", None, (25, 1))), ("branch", 20, 6, (23,), 7, ())),
    (7, (), ((28, "+", None, (3, 24)), (29, "out", None, (28,))), ("give", 28)))


def moved(program, name, label, index, title="main"):
    """The program with the row of that name taken to stand at that index of that block."""
    function = [function for function in program if function[0] == title][0]
    row = [row for block in function[3] for row in block[2] if row[0] == name][0]
    for block in function[3]:
        rows = tuple(other for other in block[2] if other[0] != name)
        if block[0] == label:
            rows = rows[:index] + (row,) + rows[index:]
        program = with_block(program, block[0], title, rows=rows)
    return program


class TestMovedWrong(Checking):
    checkers = (moved_wrong,)

    def test_nothing_moved(self):
        self.let_by(PROGRAM, PROGRAM, ("moved", ((),)))

    def test_moved_anywhere(self):
        for name, label, index, told in (
                (22, 5, 0, ((22, 5),)), (22, 5, 4, ((22, 5),)), (24, 5, 4, ((24, 5),)), (25, 5, 3, ((25, 5),)), (3, 6, 0, ((3, 6),)),
                (28, 6, 7, ((28, 6),)), (24, 7, 0, ((24, 7),)), (3, 5, 0, ()), (3, 5, 3, ()), (22, 6, 0, ()), (25, 6, 1, ()), (23, 6, 6, ())):
            with self.subTest(name=name, label=label, index=index):
                after = moved(PROGRAM, name, label, index)
                self.let_by(PROGRAM, after, ("moved", (told,)))
                self.let_by(after, PROGRAM, ("moved", (tuple((other, 6 if other in (22, 24, 25) else 7 if other == 28 else 5) for other, to in told),)))
        after = moved(moved(moved(PROGRAM, 28, 6, 5), 24, 5, 4), 22, 5, 0)
        self.let_by(PROGRAM, after, ("moved", (((22, 5), (24, 5), (28, 6)),)))

    def test_every_float_everywhere(self):
        for name in (1, 3, 22, 23, 24, 25, 28):
            home = [block[0] for block in PROGRAM[0][3] if name in names_given(block)][0]
            for label, params, rows, end in PROGRAM[0][3]:
                for index in range(len(rows) + 1):
                    after = moved(PROGRAM, name, label, index)
                    paper = ("moved", (() if label == home else ((name, label),),))
                    with self.subTest(name=name, label=label, index=index):
                        if is_looked_at(after):
                            self.let_by(PROGRAM, after, paper)
                            for inputs in ([0, 0], [3, 5]):
                                for bound in (0, 1, 2, 5):
                                    self.assertEqual(middle_run(PROGRAM, inputs, bound)[:3], middle_run(after, inputs, bound)[:3])
                        else:
                            self.wrong(PROGRAM, after, paper)

    def test_rows_that_do_not_float(self):
        before = moved(moved(PROGRAM, 25, 5, 3), 28, 6, 5)
        for name, label, index in ((2, 6, 0), (29, 6, 7), (26, 5, 4), (4, 6, 0), (27, 7, 0), (27, 5, 4), (26, 7, 0)):
            with self.subTest(name=name, label=label):
                after = moved(before, name, label, index)
                for told in (((name, label),), ()):
                    self.wrong(before, after, ("moved", (told,)), self.place_of(after, name) if is_looked_at(after) else None)

    def place_of(self, program, name):
        return [("main", block[0], index) for block in program[0][3] for index, row in enumerate(block[2]) if row[0] == name][0]

    def test_rows_that_do_not_float_in_another_order(self):
        rows = tuple((name, "out", None, (0,)) for name in (1, 2, 3)) + ((4, "num", 1, ()),)
        before = main_of((5, (), rows, ("give", 0)))
        for order, index in (((1, 3, 2, 4), None), ((3, 1, 2, 4), 0), ((2, 3, 1, 4), 2), ((2, 3, 4, 1), 3), ((3, 2, 1, 4), None), ((4, 3, 1, 2), 1)):
            after = with_block(before, 5, rows=tuple(rows[name - 1] for name in order))
            self.wrong(before, after, ("moved", ((),)), None if index is None else ("main", 5, index))
        self.let_by(before, with_block(before, 5, rows=(rows[3],) + rows[:3]), ("moved", ((),)))
        self.let_by(before, with_block(before, 5, rows=rows[:1] + (rows[3],) + rows[1:3]), ("moved", ((),)))

    def test_used_ahead_of_its_row(self):
        for name, label, index in ((1, 5, 1), (3, 7, 0), (23, 5, 0), (22, 6, 6), (28, 7, 1), (24, 5, 0)):
            self.wrong(PROGRAM, moved(PROGRAM, name, label, index), ("moved", (((name, label),),)))
            self.wrong(PROGRAM, moved(PROGRAM, name, label, index), ("moved", ((),)))

    def test_rows_left_out_put_twice_or_changed(self):
        paper = ("moved", ((),))
        block = block_of(PROGRAM[0], 6)
        for index in range(len(block[2])):
            self.wrong(PROGRAM, with_block(PROGRAM, 6, rows=block[2][:index] + block[2][index + 1:]), paper)
            twice = with_block(PROGRAM, 7, rows=block[2][index:index + 1] + block_of(PROGRAM[0], 7)[2])
            self.wrong(PROGRAM, twice, paper)
            self.wrong(PROGRAM, twice, ("moved", (((block[2][index][0], 7),),)))
        for index in range(len(block[2]) + 1):
            rows = block[2][:index] + ((60, "num", 1, ()),) + block[2][index:]
            self.wrong(PROGRAM, with_block(PROGRAM, 6, rows=rows), paper, ("main", 6, index))
            self.wrong(PROGRAM, with_block(PROGRAM, 6, rows=rows), ("moved", (((60, 6),),)), ("main", 6, index))
        for index, row in ((1, (22, "num", 2, ())), (2, (23, "+", None, (20, 22))), (2, (23, "-", None, (22, 20))), (4, (25, "copy", None, (0,))),
                           (5, (26, "out", None, (20,))), (6, (27, "rest", None, (25, 1))), (6, (61, "/", None, (25, 1)))):
            rows = block[2][:index] + (row,) + block[2][index + 1:]
            self.wrong(PROGRAM, with_block(PROGRAM, 6, rows=rows), paper, ("main", 6, index))
        self.wrong(PROGRAM, with_block(PROGRAM, 7, rows=block_of(PROGRAM[0], 7)[2][:1]), paper, ("main", 7, -1))

    def test_ends_params_labels_and_functions(self):
        paper = ("moved", ((),))
        for label, end in ((5, ("jump", 6, (90,))), (6, ("branch", 22, 6, (23,), 7, ())), (6, ("branch", 20, 6, (20,), 7, ())),
                           (6, ("jump", 7, ())), (7, ("give", 3)), (7, ("fail", 1))):
            self.wrong(PROGRAM, with_block(PROGRAM, label, end=end), paper, ("main", label, len(block_of(PROGRAM[0], label)[2])))
        more = with_block(with_block(PROGRAM, 7, params=((70, 0),)), 6, end=("branch", 20, 6, (23,), 7, (20,)))
        self.wrong(PROGRAM, more, paper, ("main", 7, -1))
        main = PROGRAM[0]
        self.wrong(PROGRAM, (main[:3] + ((main[3][0], main[3][2], main[3][1]),),), paper)
        self.wrong(PROGRAM, (main[:3] + (main[3] + ((8, (), (), ("give", 0)),),),), paper)
        self.wrong(PROGRAM, (("main", ((0, 0), (90, 0), (91, 0))) + main[2:],), paper, ("main", -1, -1))
        aid = ("aid", (), 0, ((0, (), ((0, "num", 1, ()),), ("give", 0)),))
        self.let_by(PROGRAM + (aid,), PROGRAM + (aid,), ("moved", ((), ())))
        self.wrong(PROGRAM + (aid,), (aid,) + PROGRAM, ("moved", ((), ())))
        self.wrong(PROGRAM + (aid,), PROGRAM, ("moved", ((), ())))
        self.wrong(PROGRAM, PROGRAM + (aid,), ("moved", ((),)))

    def test_papers(self):
        after = moved(moved(PROGRAM, 22, 5, 0), 24, 5, 5)
        right = ((22, 5), (24, 5))
        self.let_by(PROGRAM, after, ("moved", (right,)))
        for paper in NO_PAPERS:
            with self.subTest(paper=paper):
                self.wrong(PROGRAM, after, paper, ("", -1, -1))
        for told in (None, right[::-1], right + right[1:], right + ((77, 5),), right + ((91, 5),)):
            self.wrong(PROGRAM, after, ("moved", (told,)), ("main", -1, -1))
        for told in (right[::-1], right[:1], right[1:], (), right + ((25, 6),), right + ((25, 5),), right + ((77, 5),), right + ((28, 7),),
                     ((1, 5),) + right, ((22, 6), (24, 5)), ((22, 5), (24, 7)), ((22, 5), (24, 99)), right + right[1:], ((20, 6),) + right, ((0, 5),) + right,
                     list(right), (list(right[0]), right[1]), ((22, 5, 0), (24, 5)), ((22,), (24, 5)), ((22, None), (24, 5)), ((None, 5),) + right,
                     None, 5, (22, 5), "moved", (("22", 5),), ((22, "5"), (24, 5)), (22, 24)):
            with self.subTest(told=told):
                self.wrong(PROGRAM, after, ("moved", (told,)))
        for body in ((right, ()), (), right, [right], None):
            self.wrong(PROGRAM, after, ("moved", body))
        self.wrong(PROGRAM, after, ("moved", (right[1:],)), ("main", 5, 0))
        self.wrong(PROGRAM, after, ("moved", (right[:1],)), ("main", 5, 5))
        self.wrong(PROGRAM, after, ("moved", (((22, 5), (24, 7)),)), ("main", 5, 5))
        one = main_of((0, (), (), ("jump", 1, ())), (1, (), ((1, "num", 1, ()),), ("give", 1)), params=((0, 0),))
        self.let_by(one, moved(one, 1, 0, 0), ("moved", (((1, 0),),)))
        for told in (((True, 0),), ((1, False),)):
            self.wrong(one, moved(one, 1, 0, 0), ("moved", (told,)))


def shaped(*ends):
    """A function of blocks 0, 1, .. with a tick each and these ends: labels, or none for a give."""
    made = []
    for label, led in enumerate(ends):
        end = ("give", 0) if not led else ("jump", led[0], ()) if len(led) == 1 else ("branch", 0, led[0], (), led[1], ())
        made.append((label, (), ((100 + label, "tick", None, ()),), end))
    return main_of(*made)[0]


class TestRounds(unittest.TestCase):
    def rounds(self, *ends):
        return [(part.head, part.porch, sorted(part.inside)) for part in rounds_of(shaped(*ends))]

    def test_rounds(self):
        self.assertEqual([], self.rounds([1], []))
        self.assertEqual([(1, 0, [1, 2])], self.rounds([1], [2, 3], [1], []))
        self.assertEqual([(1, 0, [1])], self.rounds([1], [1, 2], []))
        self.assertEqual([(1, 0, [1])], self.rounds([1], [1]))
        self.assertEqual([(1, 0, [1, 2, 3, 4])], self.rounds([1], [2, 5], [3, 4], [1], [1], []))
        # Blocks from which no way leads back aren't in the round, though its head lies on every way to them.
        self.assertEqual([(1, 0, [1, 2])], self.rounds([1], [2, 3], [1, 3], [4], []))

    def test_within_one_another(self):
        self.assertEqual([(1, 0, [1, 2, 3, 4, 5]), (3, 2, [3, 4])], self.rounds([1], [2, 6], [3], [4, 5], [3], [1], []))
        # A branch leads from the first round into the second block, so that is no round's head.
        self.assertEqual([(1, 0, [1])], self.rounds([1], [1, 2], [2, 3], []))
        self.assertEqual([(1, 0, [1]), (3, 2, [3])], self.rounds([1], [1, 2], [3], [3, 4], []))
        # The inner head's blocks go on round by the porch alone: they aren't in the inner round.
        self.assertEqual([(1, 0, [1, 2, 3]), (2, 1, [2])], self.rounds([1], [2], [2, 3], [1, 4], []))

    def test_no_porch(self):
        # A branch leads in; two jumps lead in; both ways of one branch lead in.
        self.assertEqual([], self.rounds([1, 2], [1, 2], []))
        self.assertEqual([], self.rounds([1, 2], [3], [3], [3, 4], []))
        self.assertEqual([], self.rounds([1, 1], [1, 2], []))
        # Two blocks lead round between them, and into both leads a way from outside.
        self.assertEqual([], self.rounds([1, 2], [2], [1, 3], []))

    def test_a_branch_both_of_whose_ways_lead_back(self):
        self.assertEqual([(1, 0, [1])], self.rounds([1], [1, 1]))
        self.assertEqual([(1, 0, [1, 2])], self.rounds([1], [2, 3], [1, 1], []))

    def test_blocks_to_which_no_way_leads(self):
        self.assertEqual([(1, 0, [1, 2])], self.rounds([1], [2, 3], [1], [], [1], [2]))
        self.assertEqual([], self.rounds([1], [], [3], [2]))
        self.assertEqual([], self.rounds([1], [2], [], [1]))


class TestMoveOut(unittest.TestCase):
    def check(self, program, seed=0):
        outcome, paper = move_out(program)
        self.assertIsNone(moved_wrong(program, outcome, paper))
        self.assertEqual([], self.left(outcome))
        if not self.left(program):
            self.assertEqual(program, outcome)
        for k in range(2):
            inputs = inputs_for(program, seed + k)
            for bound in (0, 1, 7, 50):
                self.assertEqual(middle_run(program, inputs, bound)[:3], middle_run(outcome, inputs, bound)[:3])
        self.assertEqual((outcome, ("moved", ((),) * len(outcome))), move_out(outcome))
        return outcome

    def left(self, program):
        """Floating rows that stand in a round all of whose args are given outside of it."""
        found = []
        for function in program:
            for part in rounds_of(function):
                given = [name for label in part.inside for name in names_given(block_of(function, label))]
                rows = [row for label in part.inside for row in block_of(function, label)[2]]
                found += [row for row in rows if row[1] in SAFE and not any(arg in given for arg in row[3])]
        return found

    def test_as_told(self):
        outcome = self.check(PROGRAM)
        self.assertEqual([1, 2, 3, 4, 22, 24, 25], [row[0] for row in outcome[0][3][0][2]])
        self.assertEqual([21, 23, 26, 27], [row[0] for row in outcome[0][3][1][2]])

    def test_rounds_within_rounds(self):
        program = main_of(
            (0, (), ((1, "num", 0, ()),), ("jump", 1, (1,))),
            (1, ((2, 0),), ((3, "tick", None, ()), (4, "<", None, (2, 0))), ("branch", 4, 2, (), 6, ())),
            (2, (), ((5, "num", 0, ()),), ("jump", 3, (5,))),
            (3, ((6, 0),), ((7, "tick", None, ()), (8, "*", None, (0, 90)), (9, "+", None, (8, 2)), (10, "+", None, (9, 6)), (11, "<", None, (6, 90))),
             ("branch", 11, 4, (), 5, ())),
            (4, (), ((12, "num", 1, ()), (13, "+", None, (12, 12)), (14, "out", None, (10,)), (15, "+", None, (6, 13))), ("jump", 3, (15,))),
            (5, (), ((16, "num", 1, ()), (17, "+", None, (2, 16))), ("jump", 1, (17,))),
            (6, (), (), ("give", 2)))
        outcome = self.check(program)
        self.assertEqual([[1, 5, 16, 8, 12, 13], [3, 4], [9], [7, 10, 11], [14, 15], [17], []],
                         [sorted([row[0] for row in block[2]], key=[1, 5, 16, 8, 12, 13, 3, 4, 9, 7, 10, 11, 14, 15, 17].index) for block in outcome[0][3]])

    def test_no_row_is_moved_without_a_porch(self):
        program = main_of((0, (), (), ("branch", 0, 1, (), 2, ())), (1, (), ((1, "tick", None, ()), (3, "num", 1, ())), ("branch", 90, 1, (), 2, ())),
                          (2, (), (), ("give", 0)))
        self.assertEqual(program, self.check(program))

    def test_rows_that_do_not_float_stay(self):
        program = main_of((0, (), (), ("jump", 1, ())), (1, (), ((1, "tick", None, ()), (3, "new", 1, ()), (4, "get", 0, (3,)), (5, "/", None, (0, 90)),
                                                                 (6, "copy", None, (4,)), (7, "copy", None, (0,))), ("branch", 90, 1, (), 2, ())),
                          (2, (), (), ("give", 0)))
        self.assertEqual([[7], [1, 3, 4, 5, 6], []], [[row[0] for row in block[2]] for block in self.check(program)[0][3]])

    def test_lowered_trees(self):
        for at, main in enumerate(MAINS):
            with self.subTest(main=main):
                self.check(lower(tree_of(main))[0], at)
        for seed in range(150):
            with self.subTest(seed=seed):
                self.check(know(lower(grown(seed))[0])[0], seed)

    def test_drawn_programs(self):
        for seed in range(400):
            with self.subTest(seed=seed):
                self.check(drawn(seed), seed)

    def test_the_same_is_told_again(self):
        program = drawn(31)
        first = move_out(program)
        move_out(drawn(32))
        self.assertEqual(first, move_out(drawn(31)))
        self.assertEqual(drawn(31), program)


if __name__ == "__main__":
    unittest.main()
