"""Points 12 and 21: blocks that go along paths of before's blocks."""

import unittest

from spoiling import NO_PAPERS, Checking, main_of, with_block

from passpapers.middle import block_of
from passpapers.midrun import middle_run
from passpapers.ways import ways_wrong

BEFORE = main_of(
    (5, (), ((1, "num", 1, ()), (2, "+", None, (0, 90))), ("jump", 6, (1, 2))),
    (6, ((10, 0), (11, 0)), ((12, "-", None, (11, 0)), (13, "num", 0, ())), ("branch", 10, 7, (12,), 8, ())),
    (7, ((14, 0),), ((15, "out", None, (14,)),), ("jump", 9, (14, 2))),
    (8, (), ((26, "tick", None, ()), (16, "not", None, (2,))), ("branch", 16, 6, (13, 16), 9, (11, 16))),
    (9, ((17, 0), (18, 0)), ((19, "*", None, (17, 2)),), ("branch", 18, 20, (), 21, ())),
    (20, (), (), ("give", 19)), (21, (), (), ("fail", 3)))
# The ways from 5 by 6 and 7 to 9 are one block now, in which 31, 32 and 33 are copies of 1, 2 and 12.
AFTER = main_of(
    (40, (), ((31, "num", 1, ()), (32, "+", None, (0, 90)), (33, "-", None, (32, 0)), (34, "num", 0, ()), (35, "out", None, (33,))),
     ("jump", 41, (33,))),
    (41, ((36, 0),), ((37, "*", None, (36, 32)),), ("branch", 32, 42, (37,), 43, ())),
    (42, ((38, 0),), (), ("give", 38)), (43, (), (), ("fail", 3)))
TOLD = ((40, (5, 6, 7), ((0, 0), (90, 90))), (41, (9,), ((17, 36), (18, 32), (2, 32))), (42, (20,), ((19, 38),)), (43, (21,), ()))


def paper_of(*entries):
    return ("ways", (tuple(entries),))


def with_entry(at, *entry):
    return paper_of(*TOLD[:at], TOLD[at][:1] + entry, *TOLD[at + 1:])


class CheckingWays(Checking):
    checkers = (ways_wrong,)


class TestWaysWrong(CheckingWays):
    def rows(self, label=40):
        return block_of(AFTER[0], label)[2]

    def test_let_by(self):
        self.let_by(BEFORE, AFTER, paper_of(*TOLD))
        for inputs in ([0, 0], [3, 4], [5, -5]):
            old, new = middle_run(BEFORE, inputs, 9), middle_run(AFTER, inputs, 9)
            self.assertEqual(old[:3], new[:3])
            self.assertLess(new[3], old[3])

    def test_a_program_as_it_is(self):
        told = ((5, (5,), ((0, 0), (90, 90))), (6, (6,), ((0, 0), (2, 2), (10, 10), (11, 11))), (7, (7,), ((14, 14), (2, 2))),
                (8, (8,), ((0, 0), (2, 2), (11, 11), (13, 13))), (9, (9,), ((17, 17), (18, 18), (2, 2))), (20, (20,), ((19, 19),)), (21, (21,), ()))
        self.let_by(BEFORE, BEFORE, paper_of(*told))
        for at, (label, path, pairs) in enumerate(told):
            for gone in range(len(pairs)):
                fewer = told[:at] + ((label, path, pairs[:gone] + pairs[gone + 1:]),) + told[at + 1:]
                with self.subTest(label=label, gone=pairs[gone]):
                    self.wrong(BEFORE, BEFORE, paper_of(*fewer))

    def test_pairs_that_nothing_wants(self):
        self.let_by(BEFORE, AFTER, with_entry(1, (9,), ((17, 36), (18, 32), (2, 32), (0, 0), (90, 90), (1, 31), (10, 31), (11, 32), (12, 33), (14, 33),
                                                        (13, 34), (15, 35))))
        self.let_by(BEFORE, AFTER, with_entry(3, (21,), ((17, 36), (19, 37), (18, 32))))
        self.let_by(BEFORE, AFTER, with_entry(0, (5, 6, 7), ((90, 90), (0, 0))))

    def test_pairs_that_do_not_hold(self):
        for at, pairs in ((1, ((17, 36), (18, 33), (2, 32))), (1, ((17, 32), (18, 32), (2, 32))), (1, ((17, 36), (18, 32), (2, 0))),
                          (1, ((17, 36), (18, 32), (2, 32), (16, 32))), (1, ((17, 36), (18, 32), (2, 36))), (1, ((18, 36), (17, 32), (2, 32))),
                          (1, ((17, 36), (18, 32), (2, 32), (19, 37)))):
            with self.subTest(pairs=pairs):
                self.wrong(BEFORE, AFTER, with_entry(at, TOLD[at][1], pairs), ("main", 40, 5))
        for pairs in (((19, 32),), ((18, 38),), ((19, 36),), ((19, 38), (16, 32))):
            with self.subTest(pairs=pairs):
                self.wrong(BEFORE, AFTER, with_entry(2, (20,), pairs))
        self.wrong(BEFORE, AFTER, with_entry(2, (20,), ((19, 38), (13, 38))), ("main", 41, 1))

    def test_pairs_of_params_before_and_after(self):
        # 17 may stand for what is handed, without a param of its own; but a param's pair holds by its argument alone.
        after = with_block(with_block(AFTER, 41, params=(), rows=((37, "*", None, (33, 32)),)), 40, end=("jump", 41, ()))
        self.let_by(BEFORE, after, with_entry(1, (9,), ((17, 33), (18, 32), (2, 32))))
        self.wrong(BEFORE, after, with_entry(1, (9,), ((17, 32), (18, 33), (2, 32))))
        self.wrong(BEFORE, AFTER, with_entry(1, (9,), ((17, 33), (18, 32), (2, 32))), ("main", 41, 0))

    def test_the_first_block(self):
        for path, pairs in (((6,), TOLD[0][2]), ((6, 7), TOLD[0][2]), (TOLD[0][1], ((0, 90), (90, 0))), (TOLD[0][1], ((0, 0), (90, 0))),
                            (TOLD[0][1], ((0, 0), (90, 90), (1, 31))), (TOLD[0][1], ((0, 0), (90, 90), (13, 34))), (TOLD[0][1], ((0, 0), (90, 90), (17, 36)))):
            self.wrong(BEFORE, AFTER, with_entry(0, path, pairs), ("main", 40, -1))
        self.wrong(BEFORE, AFTER, with_entry(0, TOLD[0][1], TOLD[0][2][:1]), ("main", 40, 1))
        self.wrong(BEFORE, AFTER, with_entry(0, TOLD[0][1], ()))
        # A name that is no param, though it is there before and after.
        same = main_of((5, (), ((1, "num", 1, ()),), ("give", 1)))
        self.let_by(same, same, paper_of((5, (5,), ((0, 0),))))
        self.wrong(same, same, paper_of((5, (5,), ((0, 0), (1, 1)))), ("main", 5, -1))
        # Pairs of params that aren't used needn't be there.
        before = main_of((5, (), (), ("give", 0)))
        self.let_by(before, before, paper_of((5, (5,), ((0, 0),))))
        self.let_by(before, before, paper_of((5, (5,), ((0, 0), (90, 90)))))
        self.wrong(before, before, paper_of((5, (5,), ((90, 90),))), ("main", 5, 0))

    def test_each_row(self):
        for index, row in ((0, (31, "num", 2, ())), (0, (31, "tick", None, ())), (1, (32, "-", None, (0, 90))), (1, (32, "+", None, (90, 0))), (1, (32, "+", None, (0, 0))),
                           (2, (33, "-", None, (31, 0))), (2, (33, "-", None, (32, 90))), (2, (33, "+", None, (32, 0))), (2, (33, "num", 0, ())), (3, (34, "num", 1, ())),
                           (3, (34, "copy", None, (0,))), (4, (35, "out", None, (32,))), (4, (35, "not", None, (33,)))):
            with self.subTest(row=row):
                rows = self.rows()
                self.wrong(BEFORE, with_block(AFTER, 40, rows=rows[:index] + (row,) + rows[index + 1:]), paper_of(*TOLD), ("main", 40, index))

    def test_each_end(self):
        for label, end in ((40, ("jump", 41, (32,))), (40, ("jump", 43, ())), (40, ("jump", 42, (33,))), (40, ("branch", 31, 41, (33,), 41, (33,))), (40, ("give", 33)),
                           (40, ("fail", 3)), (41, ("branch", 36, 42, (37,), 43, ())), (41, ("branch", 32, 43, (), 42, (37,))), (41, ("branch", 32, 42, (36,), 43, ())),
                           (41, ("branch", 32, 42, (37,), 42, (37,))), (41, ("branch", 32, 43, (), 43, ())), (41, ("jump", 42, (37,))), (41, ("jump", 43, ())),
                           (42, ("give", 36)), (42, ("fail", 3)), (42, ("jump", 43, ())), (43, ("fail", 4)), (43, ("give", 0))):
            with self.subTest(label=label, end=end):
                self.wrong(BEFORE, with_block(AFTER, label, end=end), paper_of(*TOLD), ("main", label, len(self.rows(label))))

    def test_rows_left_over_and_too_few(self):
        rows = self.rows()
        for index in range(len(rows) + 1):
            for row in ((60, "num", 5, ()), (60, "out", None, (0,))):
                self.wrong(BEFORE, with_block(AFTER, 40, rows=rows[:index] + (row,) + rows[index:]), paper_of(*TOLD), ("main", 40, index))
        # A row too many that is like the next one, or like the one ahead.
        for index in (1, 2):
            extra = (60,) + rows[index][1:]
            self.wrong(BEFORE, with_block(AFTER, 40, rows=rows[:index] + (extra,) + rows[index:]), paper_of(*TOLD), ("main", 40, index))
            self.wrong(BEFORE, with_block(AFTER, 40, rows=rows[:index + 1] + (extra,) + rows[index + 1:]), paper_of(*TOLD), ("main", 40, index + 1))
        self.wrong(BEFORE, with_block(AFTER, 40, rows=rows[:4]), paper_of(*TOLD))
        self.wrong(BEFORE, with_block(AFTER, 40, rows=rows[:3] + rows[4:]), paper_of(*TOLD))
        self.wrong(BEFORE, with_block(AFTER, 40, rows=rows[1:]), paper_of(*TOLD))
        self.wrong(BEFORE, with_block(AFTER, 43, rows=((60, "num", 5, ()),)), paper_of(*TOLD), ("main", 43, 0))
        self.wrong(BEFORE, with_block(AFTER, 41, rows=(), end=("branch", 32, 42, (36,), 43, ())), paper_of(*TOLD))

    def test_rows_in_another_order(self):
        rows = self.rows()
        self.wrong(BEFORE, with_block(AFTER, 40, rows=rows[1:4] + rows[:1] + rows[4:]), paper_of(*TOLD), ("main", 40, 3))
        self.wrong(BEFORE, with_block(AFTER, 40, rows=rows[3:4] + rows[:3] + rows[4:]), paper_of(*TOLD), ("main", 40, 0))
        self.wrong(BEFORE, with_block(AFTER, 40, rows=(rows[1], rows[0]) + rows[2:]), paper_of(*TOLD))

    def test_a_row_with_another_name(self):
        # Nothing but the pairs of the next block speaks of the row's name.
        before = main_of((5, (), ((1, "num", 1, ()), (2, "num", 2, ())), ("jump", 6, ())), (6, (), (), ("give", 0)))
        told = (5, (5,), ((0, 0),)), (6, (6,), ((0, 0), (1, 1), (2, 2)))
        self.let_by(before, before, paper_of(*told))
        self.wrong(before, with_block(before, 5, rows=((7, "num", 1, ()), (2, "num", 2, ()))), paper_of(*told), ("main", 5, 0))
        self.wrong(before, with_block(before, 5, rows=((1, "num", 1, ()), (7, "num", 2, ()))), paper_of(*told), ("main", 5, 1))
        self.wrong(before, with_block(before, 5, rows=((8, "num", 1, ()), (7, "num", 2, ()))), paper_of(*told))
        self.wrong(before, before, paper_of(told[0], (6, (6,), ((0, 0), (1, 9)))), None)

    def test_labels_of_a_path(self):
        for at, path in ((0, (5,)), (0, (5, 6)), (0, (5, 7)), (0, (5, 6, 8)), (0, (5, 6, 7, 9)), (0, (5, 8, 7)), (0, (5, 6, 6)), (0, (5, 5, 6, 7)), (0, (9, 6, 7)),
                         (0, (5, 6, 9)), (0, (5, 6, 77)), (0, (77, 6, 7)), (0, (5, 77, 7)), (0, ()), (1, (20,)), (1, (8,)), (1, (9, 20)), (1, (9, 21)), (1, (77,)), (1, ()),
                         (2, (21,)), (2, (9,)), (2, (20, 21)), (3, (20,)), (3, (21, 20)), (3, (5,))):
            with self.subTest(at=at, path=path):
                self.wrong(BEFORE, AFTER, with_entry(at, path, TOLD[at][2]))
        for at, path in ((0, (5, 7)), (0, (5, 6, 8)), (0, (5, 77, 7)), (0, ()), (1, (77,)), (2, (20, 21)), (3, (21, 20))):
            self.wrong(BEFORE, AFTER, with_entry(at, path, TOLD[at][2]), ("main", TOLD[at][0], -1))

    def test_papers(self):
        for paper in NO_PAPERS:
            with self.subTest(paper=paper):
                self.wrong(BEFORE, AFTER, paper, ("", -1, -1))
        for told in ((), TOLD[:3], TOLD + TOLD[3:], list(TOLD), None):
            self.wrong(BEFORE, AFTER, ("ways", (told,)), ("main", -1, -1))
        for told in ((), TOLD[:3], TOLD + TOLD[3:], TOLD[::-1], (TOLD[0], TOLD[2], TOLD[1], TOLD[3]), list(TOLD), None, 5, (TOLD[0][:2],) + TOLD[1:],
                     (TOLD[0] + ((),),) + TOLD[1:], (list(TOLD[0]),) + TOLD[1:], (("40",) + TOLD[0][1:],) + TOLD[1:], ((41,) + TOLD[0][1:],) + TOLD[1:]):
            with self.subTest(told=told):
                self.wrong(BEFORE, AFTER, ("ways", (told,)))
        for path, pairs in (([9], TOLD[1][2]), (9, TOLD[1][2]), (("9",), TOLD[1][2]), ((None,), TOLD[1][2]), (((9,),), TOLD[1][2]), ((9,), list(TOLD[1][2])),
                            ((9,), TOLD[1][2] + TOLD[1][2][:1]), ((9,), TOLD[1][2] + ((2, 33),)), ((9,), TOLD[1][2] + ((77, 32),)), ((9,), TOLD[1][2] + ((0, 77),)),
                            ((9,), TOLD[1][2] + ((0,),)), ((9,), TOLD[1][2] + ((0, 0, 0),)), ((9,), TOLD[1][2] + ([0, 0],)), ((9,), TOLD[1][2] + ((0, None),)),
                            ((9,), TOLD[1][2] + (("0", 0),)), ((9,), TOLD[1][2] + ((False, 0),)), ((9,), TOLD[1][2] + ((0, False),)), ((9,), None), ((9,), 0),
                            ((9,), TOLD[1][2] + (([], 0),)), ((9,), (17, 36))):
            with self.subTest(path=path, pairs=pairs):
                self.wrong(BEFORE, AFTER, with_entry(1, path, pairs), ("main", 41, -1))
        for body in ((TOLD, ()), (), TOLD, [TOLD], None, 0):
            self.wrong(BEFORE, AFTER, ("ways", body))
        one = main_of((0, (), (), ("jump", 1, ())), (1, (), (), ("give", 0)), params=((0, 0),))
        self.let_by(one, one, paper_of((0, (0,), ((0, 0),)), (1, (1,), ((0, 0),))))
        for told in (((0, (0,), ((0, 0),)), (True, (1,), ((0, 0),))), ((0, (0,), ((0, 0),)), (1, (True,), ((0, 0),))), ((False, (0,), ((0, 0),)), (1, (1,), ((0, 0),)))):
            self.wrong(one, one, paper_of(*told))

    def test_functions(self):
        aid = ("aid", ((0, 0),), 0, ((3, (), (), ("give", 0)),))
        before, after, body = BEFORE + (aid,), AFTER + (aid,), (TOLD, ((3, (3,), ((0, 0),)),))
        self.let_by(before, after, ("ways", body))
        self.wrong(before, after[::-1], ("ways", body))
        self.wrong(before, after[::-1], ("ways", body[::-1]))
        self.wrong(before, after, ("ways", body[::-1]))
        self.wrong(before, AFTER, ("ways", body[:1]))
        self.wrong(before, after + (("more", (), 0, ((3, (), ((1, "num", 1, ()),), ("give", 1)),)),), ("ways", body))
        self.wrong(before, AFTER + (("aid", ((7, 0),), 0, ((3, (), (), ("give", 7)),)),), ("ways", (TOLD, ((3, (3,), ((0, 7),)),))), ("aid", -1, -1))
        self.wrong(before, AFTER + (("aide",) + aid[1:],), ("ways", body), ("aide", -1, -1))
        self.wrong(before, AFTER + (("aid", ((0, 1),), 1) + aid[3:],), ("ways", body), ("aid", -1, -1))
        self.wrong(before, AFTER + (("aid", ((0, 0), (1, 0))) + aid[2:],), ("ways", body), ("aid", -1, -1))

    def test_what_the_look_refuses(self):
        rows = self.rows()
        self.wrong(BEFORE, with_block(AFTER, 40, rows=rows[:2] + ((33, "-", None, (35, 0)),) + rows[3:]), paper_of(*TOLD), ("main", 40, 2))
        self.wrong(BEFORE, with_block(AFTER, 42, end=("give", 77)), paper_of(*TOLD), ("main", 42, 0))
        self.wrong(BEFORE, (), paper_of(*TOLD))
        self.wrong(BEFORE, None, paper_of(*TOLD))


class TestBranchesAlong(CheckingWays):
    """A path that goes on by a branch whose number is known."""

    def before(self, number, told=1):
        return main_of((5, (), ((1, "num", number, ()),), ("jump", 6, ())), (6, (), ((2, "num", 1, ()), (3, "num", number, ())), ("branch", told, 7, (2,), 7, (3,))),
                       (7, ((4, 0),), ((8, "out", None, (4,)),), ("give", 4)))

    def after(self, number, handed):
        rows = (1, "num", number, ()), (2, "num", 1, ()), (3, "num", number, ()), (8, "out", None, (handed,))
        return main_of((5, (), rows, ("give", handed)))

    def test_the_way_that_the_number_takes(self):
        paper = paper_of((5, (5, 6, 7), ((0, 0),)))
        for number, handed in ((0, 3), (1, 2), (-1, 2), (7, 2), (-32768, 2)):
            for told in (1, 3):
                self.let_by(self.before(number, told), self.after(number, handed), paper)
                self.wrong(self.before(number, told), self.after(number, 5 - handed), paper, ("main", 5, 3) if number else None)

    def test_a_name_that_no_num_row_gives(self):
        paper = paper_of((5, (5, 6, 7), ((0, 0),)))
        self.wrong(self.before(1, 0), self.after(1, 2), paper, ("main", 5, -1))
        before = main_of((5, (), ((1, "num", 1, ()), (2, "copy", None, (1,))), ("branch", 2, 6, (), 7, ())), (6, (), (), ("give", 1)), (7, (), (), ("give", 2)))
        self.wrong(before, main_of((5, (), before[0][3][0][2], ("give", 1))), paper_of((5, (5, 6), ((0, 0),))), ("main", 5, -1))

    def test_the_other_way(self):
        before = main_of((5, (), ((1, "num", 1, ()),), ("branch", 1, 6, (), 7, ())), (6, (), (), ("give", 0)), (7, (), (), ("give", 90)))
        pairs = ((0, 0), (90, 90))
        self.let_by(before, main_of((5, (), ((1, "num", 1, ()),), ("give", 0))), paper_of((5, (5, 6), pairs)))
        self.wrong(before, main_of((5, (), ((1, "num", 1, ()),), ("give", 90))), paper_of((5, (5, 7), pairs)), ("main", 5, -1))
        none = with_block(before, 5, rows=((1, "num", 0, ()),))
        self.let_by(none, main_of((5, (), ((1, "num", 0, ()),), ("give", 90))), paper_of((5, (5, 7), pairs)))
        self.wrong(none, main_of((5, (), ((1, "num", 0, ()),), ("give", 0))), paper_of((5, (5, 6), pairs)), ("main", 5, -1))

    def test_a_num_row_of_another_block(self):
        before = main_of((5, (), ((1, "num", 1, ()),), ("branch", 0, 6, (), 8, ())), (6, (), (), ("branch", 1, 7, (), 8, ())), (7, (), (), ("give", 0)),
                         (8, (), (), ("give", 90)))
        pairs = ((0, 0), (90, 90), (1, 1))
        after = main_of((5, (), ((1, "num", 1, ()),), ("branch", 0, 6, (), 8, ())), (6, (), (), ("give", 0)), (8, (), (), ("give", 90)))
        self.wrong(before, after, paper_of((5, (5,), pairs[:2]), (6, (6, 7), pairs), (8, (8,), pairs)), ("main", 6, -1))
        self.let_by(before, before, paper_of((5, (5,), pairs[:2]), (6, (6,), pairs), (7, (7,), pairs), (8, (8,), pairs)))

    def test_params_get_their_values_at_once(self):
        before = main_of((5, (), (), ("jump", 6, (0, 90))), (6, ((1, 0), (2, 0)), ((3, "tick", None, ()), (4, "-", None, (1, 2))), ("branch", 4, 6, (2, 1), 7, ())),
                         (7, (), (), ("give", 1)))
        after = main_of((5, (), ((3, "tick", None, ()), (4, "-", None, (0, 90))), ("branch", 4, 6, (90, 0), 7, (0,))),
                        (6, ((11, 0), (12, 0)), ((13, "tick", None, ()), (14, "-", None, (11, 12))), ("branch", 14, 8, (12, 11), 7, (11,))),
                        (8, ((21, 0), (22, 0)), ((23, "tick", None, ()), (24, "-", None, (21, 22))), ("branch", 24, 6, (22, 21), 7, (21,))),
                        (7, ((15, 0),), (), ("give", 15)))
        told = ((5, (5, 6), ((0, 0), (90, 90))), (6, (6,), ((1, 11), (2, 12))), (8, (6,), ((1, 21), (2, 22))), (7, (7,), ((1, 15),)))
        self.let_by(before, after, paper_of(*told))
        self.wrong(before, with_block(after, 6, end=("branch", 14, 8, (11, 12), 7, (11,))), paper_of(*told), ("main", 6, 2))
        self.wrong(before, with_block(after, 5, rows=((3, "tick", None, ()), (4, "-", None, (90, 0)))), paper_of(*told), ("main", 5, 1))
        for inputs in ([1, 1], [1, 2]):
            for bound in (0, 1, 4, 9):
                self.assertEqual(middle_run(before, inputs, bound)[:3], middle_run(after, inputs, bound)[:3])

    def test_the_same_block_twice_along_a_path(self):
        before = main_of((5, (), ((1, "num", 1, ()),), ("jump", 6, (1, 0))), (6, ((2, 0), (3, 0)), ((4, "tick", None, ()), (8, "num", 0, ())), ("branch", 2, 6, (8, 2), 7, ())),
                         (7, (), (), ("give", 3)))
        rows = ((1, "num", 1, ()), (4, "tick", None, ()), (8, "num", 0, ()), (14, "tick", None, ()), (18, "num", 0, ()))
        after = main_of((5, (), rows, ("give", 1)))
        self.let_by(before, after, paper_of((5, (5, 6, 6, 7), ((0, 0),))))
        for path in ((5, 6, 7), (5, 6, 6, 6, 7), (5, 6, 6)):
            self.wrong(before, after, paper_of((5, path, ((0, 0),))))
        self.wrong(before, with_block(after, 5, end=("give", 0)), paper_of((5, (5, 6, 6, 7), ((0, 0),))), ("main", 5, 5))

    def test_a_param_whose_argument_stands_for_nothing(self):
        # The second time 3 gets what nothing stands for: what stood for it no longer does.
        before = main_of((5, (), (), ("jump", 6, (0, 90))), (6, ((2, 0), (3, 0)), ((4, "num", 1, ()),), ("jump", 7, (3, 2))),
                         (7, ((8, 0), (9, 0)), (), ("give", 9)), (10, (), ((11, "tick", None, ()),), ("jump", 6, (11, 0))))
        after = main_of((5, (), ((4, "num", 1, ()),), ("give", 0)))
        self.let_by(before, after, paper_of((5, (5, 6, 7), ((0, 0),))))
        self.wrong(before, with_block(after, 5, end=("give", 90)), paper_of((5, (5, 6, 7), ((0, 0),))), ("main", 5, 1))
        ring = main_of((5, (), ((1, "num", 1, ()),), ("jump", 6, (1, 0))), (6, ((2, 0), (3, 0)), ((4, "tick", None, ()),), ("branch", 2, 6, (2, 90), 7, ())),
                       (7, (), (), ("give", 3)))
        rows = ((1, "num", 1, ()), (4, "tick", None, ()), (14, "tick", None, ()))
        again = main_of((5, (), rows, ("branch", 1, 6, (1, 90), 7, (90,))), (6, ((22, 0), (23, 0)), ((24, "tick", None, ()),), ("branch", 22, 6, (22, 90), 7, (23,))),
                        (7, ((30, 0),), (), ("give", 30)))
        told = ((6, (6,), ((2, 22), (3, 23), (90, 90))), (7, (7,), ((3, 30),)))
        self.let_by(ring, again, paper_of((5, (5, 6, 6), ((0, 0), (90, 90))), *told))
        self.wrong(ring, again, paper_of((5, (5, 6, 6), ((0, 0),)), *told))
        self.wrong(ring, with_block(again, 5, end=("branch", 1, 6, (1, 90), 7, (0,))), paper_of((5, (5, 6, 6), ((0, 0), (90, 90))), *told), ("main", 5, 3))


class TestBlocksToWhichNoWayLeads(CheckingWays):
    BEFORE = main_of((5, (), (), ("give", 0)), (6, (), ((1, "+", None, (2, 0)), (2, "num", 1, ())), ("jump", 7, (1,))), (7, ((3, 0),), (), ("give", 3)))

    def test_they_may_be_left_out_or_walked(self):
        pairs = ((0, 0),)
        self.let_by(self.BEFORE, main_of((5, (), (), ("give", 0))), paper_of((5, (5,), pairs)))
        told = (5, (5,), pairs), (6, (6,), ((0, 0), (2, 2))), (7, (7,), ((3, 3),))
        self.let_by(self.BEFORE, self.BEFORE, paper_of(*told))
        self.let_by(self.BEFORE, self.BEFORE, paper_of(told[0], (6, (6,), ((0, 0), (2, 2), (1, 3))), told[2]))
        # They are walked, too.
        self.wrong(self.BEFORE, self.BEFORE, paper_of(told[0], (6, (6,), ((0, 0),)), told[2]), ("main", 6, 0))
        self.wrong(self.BEFORE, with_block(self.BEFORE, 6, rows=((1, "+", None, (2, 0)), (2, "num", 2, ()))), paper_of(*told), ("main", 6, 1))
        self.wrong(self.BEFORE, with_block(self.BEFORE, 6, end=("jump", 7, (2,))), paper_of(*told), ("main", 6, 2))


if __name__ == "__main__":
    unittest.main()
