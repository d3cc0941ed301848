"""Points 12, 24 and 25: records kept in names."""

import random
import unittest

from drawing import drawn, inputs_for
from growing import grown
from spoiling import NO_PAPERS, Checking, is_looked_at, main_of, spoiled, with_block

from passpapers.dropping import drop
from passpapers.flow import labels_met
from passpapers.joining import join_blocks
from passpapers.keeping import keep
from passpapers.kept import kept_wrong
from passpapers.knowing import know
from passpapers.lowering import lower
from passpapers.middle import block_of, rows_by_name, used_by, ways_of
from passpapers.midrun import middle_run
from passpapers.trees import tree_read

# Set along two ways that come together, then round a round; 9 isn't led to where the record is made.
PROGRAM = main_of(
    (5, (), ((1, "new", 2, ()), (2, "set", 0, (1, 0)), (3, "get", 0, (1,)), (4, "get", 1, (1,)), (50, "out", None, (4,))), ("branch", 90, 6, (), 7, ())),
    (6, (), ((10, "num", 7, ()), (11, "set", 1, (1, 10)), (12, "out", None, (11,))), ("jump", 8, (3,))),
    (7, (), ((13, "set", 0, (1, 90)),), ("jump", 8, (90,))),
    (8, ((20, 0),), ((21, "tick", None, ()), (22, "get", 0, (1,)), (23, "get", 1, (1,)), (24, "out", None, (22,)), (25, "num", 1, ()), (26, "-", None, (22, 25)),
                     (27, "set", 0, (1, 26)), (28, "set", 1, (1, 22))), ("branch", 26, 8, (23,), 9, ())),
    (9, (), ((30, "out", None, (20,)),), ("give", 23)))
BLOCKS = ((6, (60, 61)), (7, (62, 63)), (8, (64, 65)))
BODY = ("main", 1, BLOCKS)
AFTER = main_of(
    (5, (), ((1, "num", 0, ()), (2, "num", 0, ()), (3, "copy", None, (0,)), (4, "copy", None, (1,)), (50, "out", None, (4,))), ("branch", 90, 6, (0, 1), 7, (0, 1))),
    (6, ((60, 0), (61, 0)), ((10, "num", 7, ()), (11, "num", 0, ()), (12, "out", None, (11,))), ("jump", 8, (3, 60, 10))),
    (7, ((62, 0), (63, 0)), ((13, "num", 0, ()),), ("jump", 8, (90, 90, 63))),
    (8, ((20, 0), (64, 0), (65, 0)), ((21, "tick", None, ()), (22, "copy", None, (64,)), (23, "copy", None, (65,)), (24, "out", None, (22,)), (25, "num", 1, ()),
                                      (26, "-", None, (22, 25)), (27, "num", 0, ()), (28, "num", 0, ())), ("branch", 26, 8, (23, 26, 22), 9, ())),
    (9, (), ((30, "out", None, (20,)),), ("give", 23)))
INPUTS = ([0, 0], [0, 1], [3, 0], [3, 2], [4, 5], [1, 1])


def paper_of(*blocks, title="main", name=1):
    return ("kept", (title, name, tuple(blocks)))


def with_row(program, label, index, *row):
    rows = block_of(program[0], label)[2]
    return with_block(program, label, rows=rows[:index] + row + rows[index + 1:])


class Keeping(Checking):
    checkers = (kept_wrong,)

    def run_alike(self, before, after, inputs=INPUTS):
        for given in inputs:
            for bound in (0, 1, 2, 3, 9, 30):
                old, new = middle_run(before, given, bound), middle_run(after, given, bound)
                self.assertEqual(old, new)


class TestKeptWrong(Keeping):
    def test_let_by(self):
        self.let_by(PROGRAM, AFTER, ("kept", BODY))
        self.run_alike(PROGRAM, AFTER)

    def test_nothing_changed(self):
        self.let_by(PROGRAM, PROGRAM, ("kept", ()))
        self.wrong(PROGRAM, AFTER, ("kept", ()))
        self.wrong(PROGRAM, PROGRAM, ("kept", BODY))
        self.wrong(PROGRAM, with_row(PROGRAM, 6, 0, (10, "num", 8, ())), ("kept", ()), ("main", 6, 0))
        self.wrong(PROGRAM, with_block(PROGRAM, 9, end=("give", 20)), ("kept", ()), ("main", 9, 1))

    def test_told_blocks_in_another_order(self):
        self.let_by(PROGRAM, AFTER, paper_of(*BLOCKS[::-1]))

    def test_in_one_block(self):
        before = main_of((5, (), ((1, "new", 3, ()), (2, "get", 2, (1,)), (3, "set", 2, (1, 0)), (4, "get", 2, (1,)), (6, "set", 2, (1, 4)), (7, "set", 2, (1, 3)), (8, "get", 2, (1,)),
                                  (9, "get", 0, (1,))), ("give", 4)))
        after = main_of((5, (), ((1, "num", 0, ()), (2, "copy", None, (1,)), (3, "num", 0, ()), (4, "copy", None, (0,)), (6, "num", 0, ()), (7, "num", 0, ()), (8, "copy", None, (3,)),
                                 (9, "copy", None, (1,))), ("give", 4)))
        self.let_by(before, after, paper_of())
        self.run_alike(before, after)
        for index, arg in ((1, 0), (3, 2), (6, 4), (6, 0), (7, 2)):
            name = after[0][3][0][2][index][0]
            self.wrong(before, with_row(after, 5, index, (name, "copy", None, (arg,))), paper_of(), ("main", 5, index))

    def test_made_anew_in_a_round(self):
        before = main_of((5, (), (), ("jump", 6, (0,))), (6, ((1, 0),), ((2, "tick", None, ()), (3, "new", 1, ()), (4, "get", 0, (3,)), (7, "out", None, (4,)), (8, "set", 0, (3, 1))), ("jump", 9, ())),
                         (9, (), ((10, "get", 0, (3,)), (11, "num", 1, ()), (12, "-", None, (10, 11))), ("branch", 12, 6, (12,), 13, ())), (13, (), (), ("give", 10)))
        after = main_of((5, (), (), ("jump", 6, (0,))), (6, ((1, 0),), ((2, "tick", None, ()), (3, "num", 0, ()), (4, "copy", None, (3,)), (7, "out", None, (4,)), (8, "num", 0, ())), ("jump", 9, (1,))),
                        (9, ((20, 0),), ((10, "copy", None, (20,)), (11, "num", 1, ()), (12, "-", None, (10, 11))), ("branch", 12, 6, (12,), 13, ())), (13, (), (), ("give", 10)))
        self.let_by(before, after, paper_of((9, (20,)), name=3))
        self.run_alike(before, after)
        # The round's own block can't be told: the first time nobody knows the fields there.
        told = with_block(with_block(after, 6, params=((1, 0), (21, 0))), 9, end=("branch", 12, 6, (12, 20), 13, ()))
        self.wrong(before, with_block(told, 5, end=("jump", 6, (0, 0))), paper_of((6, (21,)), (9, (20,)), name=3), ("main", 5, 0))

    def test_blocks_told_beyond_need(self):
        after = with_block(with_block(AFTER, 9, params=((66, 0), (67, 0))), 8, end=("branch", 26, 8, (23, 26, 22), 9, (26, 22)))
        self.let_by(PROGRAM, after, paper_of(*BLOCKS, (9, (66, 67))))
        self.run_alike(PROGRAM, after)

    def test_where_the_fields_are_not_known(self):
        # A get, a set, and a told block led to.
        for gone, place in ((0, ("main", 6, 1)), (1, ("main", 7, 0)), (2, ("main", 8, 1))):
            self.wrong(PROGRAM, AFTER, paper_of(*BLOCKS[:gone] + BLOCKS[gone + 1:]), place)
            self.wrong(PROGRAM, PROGRAM, paper_of(*BLOCKS[:gone] + BLOCKS[gone + 1:]), place)
        before = main_of((5, (), ((1, "new", 1, ()),), ("branch", 0, 6, (), 7, ())), (6, (), (), ("jump", 8, ())), (7, (), (), ("jump", 8, ())), (8, (), ((2, "get", 0, (1,)),), ("give", 2)))
        self.wrong(before, before, paper_of((6, (10,)), (8, (11,))), ("main", 7, 0))
        self.wrong(before, before, paper_of((8, (11,))), ("main", 6, 0))
        after = main_of((5, (), ((1, "num", 0, ()),), ("branch", 0, 6, (1,), 7, (1,))), (6, ((10, 0),), (), ("jump", 8, (10,))), (7, ((12, 0),), (), ("jump", 8, (12,))),
                        (8, ((11, 0),), ((2, "copy", None, (11,)),), ("give", 2)))
        self.let_by(before, after, paper_of((6, (10,)), (7, (12,)), (8, (11,))))

    def test_blocks_to_which_no_way_leads(self):
        before = main_of((5, (), ((1, "new", 1, ()),), ("jump", 6, ())), (6, (), ((2, "get", 0, (1,)),), ("give", 2)), (7, (), (), ("jump", 6, ())), (8, (), ((3, "tick", None, ()),), ("branch", 0, 7, (), 8, ())))
        after = main_of((5, (), ((1, "num", 0, ()),), ("jump", 6, (1,))), (6, ((10, 0),), ((2, "copy", None, (10,)),), ("give", 2)), (7, ((11, 0),), (), ("jump", 6, (11,))),
                        (8, ((12, 0),), ((3, "tick", None, ()),), ("branch", 0, 7, (12,), 8, (12,))))
        self.let_by(before, after, paper_of((6, (10,)), (7, (11,)), (8, (12,))))
        self.wrong(before, after, paper_of((6, (10,)), (7, (11,))), ("main", 8, 1))
        self.wrong(before, after, paper_of((6, (10,))), ("main", 7, 0))
        self.assertEqual(["kept"], [keep(before)[1][0]])
        self.let_by(before, *keep(before))

    def test_told_labels_and_names(self):
        for blocks in (BLOCKS + BLOCKS[:1], BLOCKS + ((6, (70, 71)),), BLOCKS + ((77, (70, 71)),), BLOCKS[:2] + ((8, (64,)),), BLOCKS[:2] + ((8, (64, 65, 66)),), BLOCKS[:2] + ((8, ()),),
                       BLOCKS[:2] + ((8, (65, 64)),), BLOCKS[:2] + ((8, (64, 66)),), BLOCKS[:2] + ((8, (64, 64)),), BLOCKS[:2] + ((8, (64, 20)),), BLOCKS[:2] + ((8, (64, 1)),),
                       BLOCKS[:2] + ((8, [64, 65]),), BLOCKS[:2] + ([8, (64, 65)],), BLOCKS[:2] + ((8,),), BLOCKS[:2] + ((8, (64, 65), ()),), BLOCKS[:2] + (8,), BLOCKS[:2] + ((8, None),),
                       BLOCKS[:2] + ((8, (64, None)),), BLOCKS[:2] + ((8, (64, "65")),), BLOCKS[:2] + ((8, (64, True)),), BLOCKS[:2] + (("8", (64, 65)),), BLOCKS[:2] + ((None, (64, 65)),),
                       BLOCKS[:2] + ((9, (64, 65)),), ((5, (70, 71)),) + BLOCKS, BLOCKS[:2] + ((8, (64, -1)),), BLOCKS[:2] + ((-8, (64, 65)),), BLOCKS[:2] + ((8, 64),)):
            with self.subTest(blocks=blocks):
                self.wrong(PROGRAM, AFTER, paper_of(*blocks))
        self.wrong(PROGRAM, AFTER, ("kept", ("main", 1, list(BLOCKS))))
        self.wrong(PROGRAM, AFTER, ("kept", ("main", 1, None)))
        one = main_of((0, (), ((3, "new", 1, ()),), ("jump", 1, ())), (1, (), ((4, "get", 0, (3,)),), ("give", 4)))
        kept = main_of((0, (), ((3, "num", 0, ()),), ("jump", 1, (3,))), (1, ((5, 0),), ((4, "copy", None, (5,)),), ("give", 4)))
        self.let_by(one, kept, paper_of((1, (5,)), name=3))
        self.wrong(one, kept, paper_of((True, (5,)), name=3))

    def test_the_first_block_has_no_params(self):
        before = main_of((5, (), ((1, "new", 1, ()), (2, "get", 0, (1,))), ("give", 2)))
        self.wrong(before, main_of((5, ((7, 0),), ((1, "num", 0, ()), (2, "copy", None, (1,))), ("give", 2))), paper_of((5, (7,))), ("main", 5, -1))

    def test_records_that_something_else_uses(self):
        echo = ("echo", ((0, 1),), 1, ((0, (), (), ("give", 0)),))
        for rows, end, more in (
                (((2, "copy", None, (1,)),), ("give", 0), ()), (((2, "call", "echo", (1,)),), ("give", 0), ()), ((), ("jump", 6, (1,)), ((6, ((7, 1),), (), ("give", 0)),)),
                ((), ("branch", 0, 6, (1,), 8, ()), ((6, ((7, 1),), (), ("give", 0)), (8, (), (), ("give", 0)))),
                ((), ("branch", 0, 8, (), 6, (1,)), ((6, ((7, 1),), (), ("give", 0)), (8, (), (), ("give", 0)))),
                (((2, "get", 0, (1,)), (3, "set", 0, (1, 2)), (4, "copy", None, (1,))), ("give", 2), ()),
                ((), ("give", 0), ((6, (), ((2, "copy", None, (1,)),), ("give", 0)),))):
            with self.subTest(rows=rows, end=end):
                before = (echo,) + main_of((5, (), ((1, "new", 1, ()),) + rows, end), *more)
                self.wrong(before, before, paper_of())
                self.assertEqual((before, ("kept", ())), keep(before))
        gives = ("gives", (), 1, ((0, (), ((1, "new", 1, ()),), ("give", 1)),))
        before = (gives,) + main_of((5, (), (), ("give", 0)))
        self.wrong(before, before, paper_of(title="gives"))
        self.assertEqual((before, ("kept", ())), keep(before))

    def test_records_that_are_but_set_or_not_used_at_all(self):
        before = main_of((5, (), ((1, "new", 2, ()), (2, "set", 0, (1, 0)), (3, "set", 0, (1, 2))), ("give", 0)))
        after = main_of((5, (), ((1, "num", 0, ()), (2, "num", 0, ()), (3, "num", 0, ())), ("give", 0)))
        self.let_by(before, after, paper_of())
        self.assertEqual((after, paper_of()), keep(before))
        before = main_of((5, (), ((1, "new", 2, ()),), ("give", 0)))
        self.let_by(before, main_of((5, (), ((1, "num", 0, ()),), ("give", 0))), paper_of())

    def test_a_record_as_the_number_that_is_set(self):
        before = main_of((5, (), ((1, "new", 1, ()), (2, "new", 1, ()), (3, "set", 0, (2, 0))), ("give", 0)))
        self.assertFalse(is_looked_at(with_row(before, 5, 2, (3, "set", 0, (2, 1)))))
        self.wrong(before, with_row(before, 5, 2, (3, "set", 0, (2, 1))), paper_of(name=2), ("main", 5, 2))

    def test_names_and_functions(self):
        for name in (2, 0, 90, 20, 77, 10, 60, -1, None, "1", (1,), []):
            with self.subTest(name=name):
                self.wrong(PROGRAM, AFTER, paper_of(*BLOCKS, name=name))
        for title in ("none", "", None, 0, "mai", ("main",)):
            self.wrong(PROGRAM, AFTER, paper_of(*BLOCKS, title=title))
        aid = ("aid", ((0, 0),), 0, ((5, (), ((1, "new", 2, ()),), ("give", 0)),))
        self.let_by((aid,) + PROGRAM, (aid,) + AFTER, ("kept", BODY))
        self.wrong((aid,) + PROGRAM, (aid,) + AFTER, paper_of(*BLOCKS, title="aid"))
        self.wrong((aid,) + PROGRAM, AFTER + (aid,), ("kept", BODY))
        self.wrong((aid,) + PROGRAM, AFTER, ("kept", BODY))
        self.wrong(PROGRAM, (aid,) + AFTER, ("kept", BODY))
        self.wrong((aid,) + PROGRAM, (("aid", ((9, 0),), 0, ((5, (), ((1, "new", 2, ()),), ("give", 9)),)),) + AFTER, ("kept", BODY), ("aid", -1, -1))
        self.wrong((aid,) + PROGRAM, (aid[:3] + (((5, (), ((1, "new", 1, ()),), ("give", 0)),),),) + AFTER, ("kept", BODY), ("aid", 5, 0))

    def test_papers(self):
        for paper in NO_PAPERS + (("kept",), ("kept", None), ("kept", []), ("kept", 0), ("kept", "main"), ("kept", ((),)), ("kept", (), ()), ("kept", BODY[:2]), ("kept", BODY + ((),)),
                                  ("kept", BODY[::-1]), ("kept", list(BODY)), ("kept", (BODY,)), ("placed", ()), ("placed", BODY), ["kept", BODY], ("kept", BODY, BODY)):
            with self.subTest(paper=paper):
                self.wrong(PROGRAM, AFTER, paper, ("", -1, -1))

    def test_each_row_and_end(self):
        for label, index, row in ((5, 0, (1, "num", 1, ())), (5, 0, (1, "copy", None, (0,))), (5, 1, (2, "num", 1, ())), (5, 1, (2, "copy", None, (0,))), (5, 2, (3, "copy", None, (90,))),
                                  (5, 2, (3, "copy", None, (1,))), (5, 3, (4, "copy", None, (0,))), (5, 3, (4, "num", 0, ())), (6, 0, (10, "num", 6, ())), (6, 1, (11, "copy", None, (10,))),
                                  (6, 2, (12, "out", None, (60,))), (7, 0, (13, "num", 1, ())), (8, 1, (22, "copy", None, (65,))), (8, 2, (23, "copy", None, (64,))),
                                  (8, 2, (23, "copy", None, (22,))), (8, 6, (27, "num", 1, ())), (8, 7, (28, "copy", None, (27,))), (9, 0, (30, "out", None, (64,)))):
            with self.subTest(label=label, row=row):
                self.wrong(PROGRAM, with_row(AFTER, label, index, row), ("kept", BODY), ("main", label, index))
        for label, end in ((5, ("branch", 90, 6, (0, 0), 7, (0, 1))), (5, ("branch", 90, 6, (0, 1), 7, (1, 0))), (5, ("branch", 0, 6, (0, 1), 7, (0, 1))), (5, ("branch", 90, 7, (0, 1), 6, (0, 1))),
                           (6, ("jump", 8, (3, 10, 60))), (6, ("jump", 8, (60, 60, 10))), (6, ("jump", 8, (3, 60, 61))), (7, ("jump", 8, (90, 62, 63))), (7, ("jump", 8, (90, 90, 62))),
                           (8, ("branch", 26, 8, (23, 64, 22), 9, ())), (8, ("branch", 26, 8, (23, 26, 65), 9, ())), (8, ("branch", 26, 8, (20, 26, 22), 9, ())), (9, ("give", 22))):
            with self.subTest(label=label, end=end):
                self.wrong(PROGRAM, with_block(AFTER, label, end=end), ("kept", BODY), ("main", label, len(block_of(AFTER[0], label)[2])))
        for label, params, rows in (AFTER[0][3][k][:3] for k in range(5)):
            for index in range(len(rows) + 1):
                self.wrong(PROGRAM, with_block(AFTER, label, rows=rows[:index] + ((77, "num", 0, ()),) + rows[index:]), ("kept", BODY), ("main", label, index))

    def test_each_param(self):
        for params in (((20, 0), (65, 0), (64, 0)), ((64, 0), (20, 0), (65, 0)), ((64, 0), (65, 0), (20, 0))):
            self.wrong(PROGRAM, with_block(AFTER, 8, params=params), ("kept", BODY), ("main", 8, -1))
        more = with_block(with_block(AFTER, 6, params=((60, 0), (61, 0), (70, 0))), 5, end=("branch", 90, 6, (0, 1, 1), 7, (0, 1)))
        self.wrong(PROGRAM, more, ("kept", BODY))
        fewer = with_block(with_block(AFTER, 6, params=((60, 0),)), 5, end=("branch", 90, 6, (0,), 7, (0, 1)))
        self.wrong(PROGRAM, fewer, ("kept", BODY))
        other = with_block(AFTER, 7, params=((62, 0), (71, 0)))
        self.wrong(PROGRAM, with_block(other, 7, end=("jump", 8, (90, 90, 71))), ("kept", BODY), ("main", 7, -1))

    def test_what_the_look_refuses(self):
        self.wrong(PROGRAM, with_block(AFTER, 6, end=("jump", 8, (3, 60))), ("kept", BODY), ("main", 6, 3))
        self.wrong(PROGRAM, with_row(AFTER, 9, 0, (30, "out", None, (60,))), ("kept", BODY), ("main", 9, 0))
        self.wrong(PROGRAM, with_row(AFTER, 5, 0, (1, "new", 2, ())), ("kept", BODY))
        self.wrong(PROGRAM, (), ("kept", BODY))
        self.wrong(PROGRAM, None, ("kept", ()))

    def test_one_row_or_one_end_alone_is_wrong(self):
        kept = 0
        for seed in range(60):
            program = lower(grown(seed))[0] if seed % 3 == 0 else drawn(seed)
            outcome, paper = keep(program)
            for other, place in spoiled(random.Random(seed), outcome):
                self.assertEqual(place, kept_wrong(program, other, paper), seed)
                kept += paper[1] != ()
        self.assertGreater(kept, 0)


class TestKeep(Keeping):
    def first(self, program):
        """The name that keep finds by its words, told otherwise than by the package."""
        for function in program:
            met = labels_met(function)
            for label, params, rows, end in function[3]:
                for name in [row[0] for row in rows if row[1] == "new" and label in met]:
                    uses = []
                    for other, own, there, last in function[3]:
                        uses += [(other, row) for row in there if name in row[3]]
                        uses += [(other, None)] * (name in used_by(last) or any(name in args for led, args in ways_of(last)))
                    if all(at in met and row is not None and row[1] in ("get", "set") for at, row in uses):
                        return (function[0], name)
        return ()

    def check(self, program, seed=0):
        outcome, paper = keep(program)
        self.let_by(program, outcome, paper)
        self.assertEqual(self.first(program), paper[1][:2])
        self.assertEqual([function[:3] for function in program], [function[:3] for function in outcome])
        if paper[1] == ():
            self.assertEqual(program, outcome)
        else:
            row = rows_by_name([function for function in outcome if function[0] == paper[1][0]][0])[paper[1][1]][2]
            self.assertEqual((paper[1][1], "num", 0, ()), row)
        self.run_alike(program, outcome, [inputs_for(program, seed + k) for k in range(2)])
        return outcome

    def test_as_told(self):
        outcome = self.check(PROGRAM)
        self.assertEqual([[], [2], [2], [3], []], [[len(block[1])] if block[1] else [] for block in outcome[0][3]])
        self.assertEqual((outcome, ("kept", ())), keep(outcome))

    def test_the_first_in_order(self):
        use = ((7, "get", 0, (2,)), (8, "get", 0, (1,)))
        one = main_of((5, (), ((2, "new", 1, ()), (1, "new", 1, ())) + use, ("give", 7)))
        self.assertEqual(("main", 2, ()), keep(one)[1][1])
        self.check(self.check(self.check(one)))
        copied = main_of((5, (), ((2, "new", 1, ()), (1, "new", 1, ())) + use + ((9, "copy", None, (2,)),), ("give", 7)))
        self.assertEqual(("main", 1, ()), keep(copied)[1][1])
        aid = ("aid", (), 0, ((0, (), ((3, "new", 4, ()), (4, "get", 3, (3,))), ("give", 4)),))
        self.assertEqual(("main", 2), keep(one + (aid,))[1][1][:2])
        self.assertEqual(("aid", 3), keep((aid,) + one)[1][1][:2])

    def test_blocks_to_which_no_way_leads(self):
        made = main_of((5, (), (), ("give", 0)), (6, (), ((1, "new", 1, ()), (2, "get", 0, (1,))), ("give", 2)))
        self.assertEqual((made, ("kept", ())), keep(made))
        used = main_of((5, (), ((1, "new", 1, ()), (3, "new", 1, ())), ("give", 0)), (6, (), ((2, "get", 0, (1,)),), ("give", 2)))
        self.assertEqual(("main", 3, ()), keep(used)[1][1])
        self.check(used)

    def test_behind_other_passes(self):
        tree = tree_read("( program ( record point x y ) ( fun main ( n number ) number ( let p ( new point ) ) ( set p x n ) ( while ( < 0 ( get p x ) ) "
                         "( ( set p y ( + ( get p y ) ( get p x ) ) ) ( set p x ( - ( get p x ) 1 ) ) ) ) ( give ( get p y ) ) ) )")
        program = self.check(lower(tree)[0])
        for action in (know, drop, join_blocks, know, drop):
            program = action(program)[0]
        self.assertEqual([], [row for block in program[0][3] for row in block[2] if row[1] in ("new", "get", "set", "copy")])
        self.assertEqual(("answer", 15), middle_run(program, [5], 99)[:2])

    def test_names_that_are_far_up(self):
        million = 10 ** 6
        program = main_of((5, (), ((million, "new", 4, ()),), ("jump", million, ())), (million, (), ((3, "get", 0, (million,)),), ("give", 3)))
        outcome, paper = keep(program)
        self.let_by(program, outcome, paper)
        self.assertEqual(4, len([name for label, names in paper[1][2] for name in names if name < million]))

    def test_drawn_programs(self):
        kept = 0
        for seed in range(400):
            program = lower(grown(seed))[0] if seed % 3 == 0 else drawn(seed, 12 if seed % 2 else 5)
            for k in range(3):
                with self.subTest(seed=seed):
                    outcome = self.check(program, seed)
                    kept += outcome != program
                    program = outcome
        self.assertGreater(kept, 100)

    def test_the_same_is_told_again(self):
        program = drawn(35)
        first = keep(program)
        keep(drawn(36))
        self.assertEqual(first, keep(drawn(35)))
        self.assertEqual(drawn(35), program)


if __name__ == "__main__":
    unittest.main()
